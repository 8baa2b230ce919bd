import PyProof.Rows.All
import Wide.All
import OpenK.AllK
import Wide.FinOn
import Lean
import PyProof.EqAt
import PyProof.EqKinds
import PyProof.TupleCall
import PySem.Challenge.RW_rolldie_k06_come_to
set_option Elab.async false
set_option linter.all false
set_option maxRecDepth 100000
/-! THE HAND LAYER, for ints, bools, texts, own classes, LISTS and tuples (index, slices, in, append, pop ..), calls, loops. Paste it whole ahead of your own text; what your proof does not reach may be deleted. -/
namespace L2
open PySem PySem.Spec PyProof.Rows

/-- a key: an int or a str -/
noncomputable abbrev Key := Sum Int Str
noncomputable def keyIs : Key → Value → Bool
  | .inl k, v => Value.isInt k v
  | .inr x, v => Value.isStrOf x v
noncomputable def keyH (w : World) : Key → Int
  | .inl k => hashInt k
  | .inr x => hashStr w x
theorem keyIs_shape : ∀ {k : Key} {v : Value}, keyIs k v = true → (∃ i t, k = Sum.inl i ∧ v = Value.int i t) ∨ (∃ x t, k = Sum.inr x ∧ v = Value.str x t)
  | .inl i, v, h => by
    obtain ⟨t, e⟩ := Value.isInt_shape (k := i) (v := v) h
    exact .inl ⟨i, t, rfl, e⟩
  | .inr x, v, h => by
    obtain ⟨t, e⟩ := Value.isStrOf_shape (x := x) (v := v) h
    exact .inr ⟨x, t, rfl, e⟩
theorem key_ll (a b : Int) : decide ((Sum.inl a : Key) = Sum.inl b) = (a == b) := by
  by_cases e : a = b
  · subst e; simp
  · have h : ¬ (Sum.inl a : Key) = Sum.inl b := fun q => e (Sum.inl.inj q)
    rw [decide_eq_false h]
    exact (beq_eq_false_iff_ne.mpr e).symm
theorem key_rr (a b : Str) : decide ((Sum.inr a : Key) = Sum.inr b) = decide (a = b) := by
  by_cases e : a = b
  · subst e; simp
  · have h : ¬ (Sum.inr a : Key) = Sum.inr b := fun q => e (Sum.inr.inj q)
    rw [decide_eq_false h, decide_eq_false e]
theorem key_lr (a : Int) (b : Str) : decide ((Sum.inl a : Key) = Sum.inr b) = false := decide_eq_false (fun q => nomatch q)
theorem key_rl (a : Str) (b : Int) : decide ((Sum.inr a : Key) = Sum.inl b) = false := decide_eq_false (fun q => nomatch q)

noncomputable def mixKind (prog : Program) (w : World) : PySem.KeyKind prog w Key where
  is := keyIs
  hash := keyH w
  inj := fun v a b ha hb => by
    rcases keyIs_shape ha with ⟨i, t, rfl, rfl⟩ | ⟨x, t, rfl, rfl⟩
    · rcases keyIs_shape hb with ⟨j, u, rfl, e⟩ | ⟨y, u, rfl, e⟩
      · injection e with e1 _; rw [e1]
      · exact nomatch e
    · rcases keyIs_shape hb with ⟨j, u, rfl, e⟩ | ⟨y, u, rfl, e⟩
      · exact nomatch e
      · injection e with e1 _; rw [e1]
  byValue := fun k v h => by
    rcases keyIs_shape h with ⟨i, t, rfl, rfl⟩ | ⟨x, t, rfl, rfl⟩ <;> rfl
  pyHash := fun hv h => by
    rcases keyIs_shape hv with ⟨i, t, rfl, rfl⟩ | ⟨x, t, rfl, rfl⟩
    · exact wpAny_pyHash_int h
    · exact wpAny_pyHash_str h
  eqBool := fun hu hv h => by
    rcases keyIs_shape hu with ⟨i, t, rfl, rfl⟩ | ⟨x, t, rfl, rfl⟩
    · rcases keyIs_shape hv with ⟨j, u, rfl, rfl⟩ | ⟨y, u, rfl, rfl⟩
      · rw [key_ll] at h; exact wpAny_eqBool_int h
      · rw [key_lr] at h; exact SeqAt.EqAt.int_str i t y u _ _ _ _ h
    · rcases keyIs_shape hv with ⟨j, u, rfl, rfl⟩ | ⟨y, u, rfl, rfl⟩
      · rw [key_rl] at h; exact SeqAt.EqAt.str_int x t j u _ _ _ _ h
      · rw [key_rr] at h; exact wpAny_eqBool_str h
  «strs» := fun k x t v h => by
    rcases keyIs_shape h with ⟨i, u, rfl, e⟩ | ⟨y, u, rfl, e⟩
    · exact nomatch e
    · injection e with e1 _
      subst e1
      cases v <;> rfl

end L2

namespace L2
open PySem PySem.Spec PyProof.Rows

/-- a value, without the heap -/
inductive V where
  | non | bl (b : Bool) | int (i : Int) | str (x : Str) | byt (b : Array UInt8) | flt (b : UInt64) | ref (a : Addr) | ty (n : String)
  deriving DecidableEq

noncomputable def RelV : V → Value → Prop
  | .non, u => u = Value.none
  | .bl b, u => u = Value.bool b
  | .int i, u => ∃ t, u = Value.int i t
  | .str x, u => ∃ t, u = Value.str x t
  | .byt b, u => ∃ t, u = Value.bytes b t
  | .flt b, u => ∃ t, u = Value.float b t
  | .ref a, u => u = Value.ref a
  | .ty n, u => u = Value.type n

noncomputable abbrev Vals : List V → List Value → Prop := Paired RelV
theorem Vals.length {xs : List V} {us : List Value} (r : Vals xs us) : xs.length = us.length := Paired.length r
theorem Vals.get : ∀ {xs : List V} {us : List Value} {i : Nat} {x : V}, Vals xs us → xs[i]? = some x → ∃ u, us[i]? = some u ∧ RelV x u
  | _, _, _, _, .nil, e => by simp at e
  | _, _, 0, _, .cons r _, e => by simp at e; subst e; exact ⟨_, rfl, r⟩
  | _, _, i + 1, x, .cons _ t, e => by
    obtain ⟨u, h1, h2⟩ := Vals.get (i := i) (x := x) t (by simpa using e)
    exact ⟨u, by simpa using h1, h2⟩
theorem Vals.append : ∀ {xs ys : List V} {us ws : List Value}, Vals xs us → Vals ys ws → Vals (xs ++ ys) (us ++ ws)
  | _, _, _, _, .nil, s => s
  | _, _, _, _, .cons r t, s => .cons r (Vals.append t s)
theorem Vals.take : ∀ {xs : List V} {us : List Value} (n : Nat), Vals xs us → Vals (xs.take n) (us.take n)
  | _, _, 0, _ => .nil
  | _, _, _ + 1, .nil => .nil
  | _, _, n + 1, .cons r t => .cons r (Vals.take n t)
theorem Vals.drop : ∀ {xs : List V} {us : List Value} (n : Nat), Vals xs us → Vals (xs.drop n) (us.drop n)
  | _, _, 0, r => r
  | _, _, _ + 1, .nil => .nil
  | _, _, n + 1, .cons _ t => Vals.drop n t

noncomputable def RelO : Option V → Option Value → Prop
  | some v, some u => RelV v u
  | none, none => True
  | _, _ => False
noncomputable def KV {κ : Type} : List (κ × V) → List (κ × Value) → Prop := Paired fun (p : κ × V) (q : κ × Value) => p.1 = q.1 ∧ RelV p.2 q.2

/-- a key of a dict (00_mix): an int or a text -/
noncomputable def kV : Key → V
  | .inl i => .int i
  | .inr x => .str x

/-- what stands at a tracked address -/
inductive HO where
  /-- a list -/
  | lst (xs : List V)
  /-- a tuple (never changes) -/
  | tup (xs : List V)
  /-- a dict whose keys are ints and texts; one whose keys are tuples of ints and texts (the empty one is both) -/
  | dK (kvs : List (Key × V)) | dT (kvs : List (List Key × V))
  /-- a set of ints: its members, its size -/
  | set (S : Int → Bool) (n : Nat)
  /-- an instance of the class at C, its dict at dx, its attributes -/
  | ins (C dx : Addr) (fs : List (Str × V))
  /-- the dict of the instance at x -/
  | own (x : Addr)
  /-- the dict of an exception -/
  | xd (fs : List (Str × V))
  /-- a bound method, f of x -/
  | met (f x : Addr)
  /-- a range object lo, lo + 1, .. below hi -/
  | rng (lo hi : Int)
  /-- a thing that is known to the object (the script; a dict while a loop walks it): read, never written while it is so -/
  | frz (o : Obj) (u : HO)
  /-- a code object's table -/
  | tbl (ps : Array Value)
  /-- any other thing, by what is true of its one object (a def of one's own: SetO a S n := HO.ext fun h => ..) -/
  | ext (φ : Heap → Prop)

noncomputable abbrev Hp := Addr → Option HO
noncomputable def upd (H : Hp) (a : Addr) (o : HO) : Hp := fun b => if b = a then some o else H b
theorem upd_same {H : Hp} {a : Addr} {o : HO} : upd H a o a = some o := by unfold upd; rw [if_pos rfl]
theorem upd_ne {H : Hp} {a b : Addr} {o : HO} (h : b ≠ a) : upd H a o b = H b := by unfold upd; rw [if_neg h]
/-- two objects of different content stand apart -/
theorem ne_of {H : Hp} {a b : Addr} {o u : HO} (h : H a = some o) (h' : H b = some u) (d : o ≠ u) : a ≠ b := by
  intro e; subst e; rw [h] at h'; exact d (Option.some.inj h')
theorem ne_of_none {H : Hp} {a b : Addr} {o : HO} (h : H a = some o) (h' : H b = none) : a ≠ b := by
  intro e; subst e; rw [h] at h'; cases h'

section
variable (P : Program) (w : World)
noncomputable def ObjOk (H : Hp) (h : Heap) (a : Addr) : HO → Prop
  | .lst xs => xs.length ≤ sizeLine ∧ ∃ (its : List Value) (n : Nat), Vals xs its ∧ h.get? a = some { cls := .type "list", data := .seq its.toArray n }
  | .tup xs => xs.length ≤ sizeLine ∧ ∃ its : List Value, Vals xs its ∧ IsTup h a its.toArray
  | .dK kvs => kvs.length ≤ sizeLine ∧ (a == sysModules) = false ∧ ∃ vs, KV kvs vs ∧ h.DictOf (mixKind P w) a vs
  | .dT kvs => kvs.length ≤ sizeLine ∧ (a == sysModules) = false ∧ ∃ xs : List (List Key × Addr × Value),
      Paired (fun (p : List Key × V) (q : List Key × Addr × Value) => p.1 = q.1 ∧ H q.2.1 = some (.tup (p.1.map kV)) ∧ RelV p.2 q.2.2) kvs xs ∧
      ∃ o es ep, h.get? a = some o ∧ o.ExactDict ∧ o.data = .dict es ep ∧ es.toList = xs.map (entryOfKey (tupleKind (mixKind P w))) ∧ (xs.map (·.1)).Nodup
  | .set S n => h.SetOf (intKind P w) a S n
  | .ins C dx fs => H dx = some (.own a) ∧ fs.length ≤ 1000 ∧ dx ≠ a ∧ h.get? a = some (PySem.W.instObj C dx) ∧
      ∃ mA, h.Ns1 dx mA ∧ (∀ f, RelO (fs.lookup f) (mA f)) ∧ PySem.Within mA (fs.map (·.1))
  | .own _ => ∃ o, h.get? a = some o
  | .xd fs => ∃ mA, h.Ns1 a mA ∧ ∀ f, RelO (fs.lookup f) (mA f)
  | .rng lo hi => ∃ t u v, h.get? a = some { cls := .type "range", data := .fields #[.int lo t, .int hi u, .int 1 v] }
  | .frz o u => h.get? a = some o ∧ ObjOk H h a u
  | .tbl ps => h.get? a = some { cls := .none, data := .fields ps }
  | .met f x => h.get? a = some (PySem.W.methodObj (.ref f) (.ref x))
  | .ext φ => φ h ∧ (∃ o, h.get? a = some o) ∧ ∀ h1 h2 : Heap, φ h1 → (∀ o, h1.get? a = some o → h2.get? a = some o) → φ h2
/-- the abstract heap is held -/
noncomputable def HOk (H : Hp) (h : Heap) : Prop := ∀ a o, H a = some o → ObjOk P w H h a o
end

section
variable {P : Program} {w : World} {H H' : Hp} {h h' : Heap} {a : Addr} {o : HO}
theorem ObjOk.lt (x : ObjOk P w H h a o) : a < h.objs.size := by
  cases o with
  | lst xs => obtain ⟨_, _, _, _, e⟩ := x; exact Heap.lt_size e
  | tup xs => obtain ⟨_, _, _, p⟩ := x; exact p.lt
  | dK kvs => obtain ⟨_, _, _, _, o, _, _, e, _⟩ := x; exact Heap.lt_size e
  | dT kvs => obtain ⟨_, _, _, _, o, _, _, e, _⟩ := x; exact Heap.lt_size e
  | set S n => obtain ⟨o, _, _, _, e, _⟩ := x; exact Heap.lt_size e
  | ins C dx fs => obtain ⟨_, _, _, e, _⟩ := x; exact Heap.lt_size e
  | own y => obtain ⟨_, e⟩ := x; exact Heap.lt_size e
  | xd fs => obtain ⟨_, ⟨_, _, _, e, _⟩, _⟩ := x; exact Heap.lt_size e
  | rng lo hi => obtain ⟨_, _, _, e⟩ := x; exact Heap.lt_size e
  | frz ob u => obtain ⟨e, _⟩ := x; exact Heap.lt_size e
  | tbl ps => exact Heap.lt_size (show h.get? a = some _ from x)
  | met f y => exact Heap.lt_size (show h.get? a = some _ from x)
  | ext φ => obtain ⟨_, ⟨_, e⟩, _⟩ := x; exact Heap.lt_size e
theorem Paired.mapP {α β : Type} {F G : α → β → Prop} : ∀ {l₁ : List α} {l₂ : List β}, Paired F l₁ l₂ → (∀ a b, F a b → G a b) → Paired G l₁ l₂
  | _, _, .nil, _ => .nil
  | _, _, .cons r t, f => .cons (f _ _ r) (Paired.mapP t f)
/-- what an object's description leans on: its own object, its own dict, the tuples -/
theorem ObjOk.stay (x : ObjOk P w H h a o) (k : ∀ b u, (b = a ∨ H b = some (.own a)) → h.get? b = some u → h'.get? b = some u)
    (ho : ∀ b, H b = some (.own a) → H' b = some (.own a)) (ht : ∀ b xs, H b = some (.tup xs) → H' b = some (.tup xs)) : ObjOk P w H' h' a o := by
  induction o with
  | lst xs => obtain ⟨z, its, n, r, e⟩ := x; exact ⟨z, its, n, r, k _ _ (.inl rfl) e⟩
  | tup xs => obtain ⟨z, its, r, ob, e, c⟩ := x; exact ⟨z, its, r, ob, k _ _ (.inl rfl) e, c⟩
  | dK kvs => obtain ⟨z, y, vs, r, ob, es, ep, e, c⟩ := x; exact ⟨z, y, vs, r, ob, es, ep, k _ _ (.inl rfl) e, c⟩
  | dT kvs =>
    obtain ⟨z, y, xs, r, ob, es, ep, e, c⟩ := x
    exact ⟨z, y, xs, Paired.mapP r fun p q z => ⟨z.1, ht _ _ z.2.1, z.2.2⟩, ob, es, ep, k _ _ (.inl rfl) e, c⟩
  | set S n => obtain ⟨ob, es, ep, t, e, c⟩ := x; exact ⟨ob, es, ep, t, k _ _ (.inl rfl) e, c⟩
  | ins C dx fs =>
    obtain ⟨d, z, ne, e, mA, ⟨od, es, ep, e2, c⟩, r⟩ := x
    exact ⟨ho _ d, z, ne, k _ _ (.inl rfl) e, mA, ⟨od, es, ep, k _ _ (.inr d) e2, c⟩, r⟩
  | own y => obtain ⟨ob, e⟩ := x; exact ⟨ob, k _ _ (.inl rfl) e⟩
  | xd fs => obtain ⟨mA, ⟨od, es, ep, e, c⟩, r⟩ := x; exact ⟨mA, ⟨od, es, ep, k _ _ (.inl rfl) e, c⟩, r⟩
  | rng lo hi => obtain ⟨t, u, v, e⟩ := x; exact ⟨t, u, v, k _ _ (.inl rfl) e⟩
  | frz ob u ih => obtain ⟨e, q⟩ := x; exact ⟨k _ _ (.inl rfl) e, ih q⟩
  | tbl ps =>
    have e : h.get? a = some { cls := .none, data := .fields ps } := x
    show h'.get? a = some { cls := .none, data := .fields ps }
    exact k a _ (.inl rfl) e
  | met f y =>
    have e : h.get? a = some (PySem.W.methodObj (.ref f) (.ref y)) := x
    show h'.get? a = some (PySem.W.methodObj (.ref f) (.ref y))
    exact k a _ (.inl rfl) e
  | ext φ => obtain ⟨p, ⟨o, e⟩, st⟩ := x; exact ⟨st _ _ p fun o q => k _ _ (.inl rfl) q, ⟨o, k _ _ (.inl rfl) e⟩, st⟩
theorem HOk.lt (x : HOk P w H h) (e : H a = some o) : a < h.objs.size := (x a o e).lt
theorem HOk.fresh (x : HOk P w H h) (e : h.objs.size ≤ a) : H a = none := by
  cases q : H a with
  | none => rfl
  | some u => exact absurd (Nat.lt_of_lt_of_le (x.lt q) e) (Nat.lt_irrefl _)
/-- every object of the heap is kept -/
theorem HOk.kept (x : HOk P w H h) (k : ∀ b u, h.get? b = some u → h'.get? b = some u) : HOk P w H h' := fun a o e =>
  (x a o e).stay (fun b u _ q => k b u q) (fun _ q => q) fun _ _ q => q
/-- a new object is laid and tracked -/
theorem HOk.laid (x : HOk P w H h) (k : ∀ b u, h.get? b = some u → h'.get? b = some u) (hp : h.objs.size ≤ a) (new : ObjOk P w (upd H a o) h' a o) : HOk P w (upd H a o) h' := fun b u e => by
  have hn := x.fresh hp
  by_cases hb : b = a
  · subst hb; rw [upd_same] at e; cases e; exact new
  · rw [upd_ne hb] at e
    exact (x b u e).stay (fun c v _ q => k c v q) (fun c q => by rw [upd_ne (ne_of_none q hn)]; exact q) fun c xs q => by rw [upd_ne (ne_of_none q hn)]; exact q
end

/-- what may be read as u: it is u, or a known u -/
noncomputable def Rd (H : Hp) (a : Addr) (u : HO) : Prop := H a = some u ∨ ∃ o, H a = some (.frz o u)
theorem Rd.ok {P : Program} {w : World} {H : Hp} {h : Heap} {a : Addr} {u : HO} (r : Rd H a u) (x : HOk P w H h) : ObjOk P w H h a u := by
  rcases r with r | ⟨o, r⟩
  · exact x a u r
  · obtain ⟨_, q⟩ := x a _ r
    exact q
/-- what may be written -/
noncomputable def Mut : Option HO → Prop
  | some (.lst _) => True
  | some (.dK _) => True
  | some (.dT _) => True
  | some (.set _ _) => True
  | some (.ins _ _ _) => True
  | some (.ext _) => True
  | _ => False
section
variable {P : Program} {w : World} {H : Hp} {h h' : Heap} {x e : Addr} {o' : HO}
/-- the object at e is changed: x itself, or the dict of the instance x -/
theorem HOk.write (ok : HOk P w H h) (mu : Mut (H x)) (he : e = x ∨ H e = some (.own x)) (k : ∀ b u, b ≠ e → h.get? b = some u → h'.get? b = some u) (heo : ∃ u, h'.get? e = some u)
    (new : ObjOk P w (upd H x o') h' x o') : HOk P w (upd H x o') h' := fun b u q => by
  have nown : ∀ c y, H c = some (.own y) → c ≠ x := fun c y r z => by subst z; rw [r] at mu; exact mu
  have ntup : ∀ c xs, H c = some (.tup xs) → c ≠ x := fun c xs r z => by subst z; rw [r] at mu; exact mu
  by_cases hb : b = x
  · subst hb; rw [upd_same] at q; cases q; exact new
  · rw [upd_ne hb] at q
    by_cases hbe : b = e
    · have q' : H b = some (.own x) := by
        rcases he with z | z
        · exact absurd (hbe.trans z) hb
        · rw [hbe]; exact z
      rw [q] at q'; cases q'
      obtain ⟨v, hv⟩ := heo
      exact ⟨v, by rw [hbe]; exact hv⟩
    · refine (ok b u q).stay (fun c v hc r => k c v ?_ r) (fun c r => by rw [upd_ne (nown c b r)]; exact r) fun c xs r => by rw [upd_ne (ntup c xs r)]; exact r
      rcases hc with rfl | hc
      · exact hbe
      · rintro rfl
        rcases he with z | z
        · exact nown c b hc z
        · rw [hc] at z; cases z; exact hb rfl
end

/-! ### kept unless tracked; of the frames at fs (the callers') the slots may change (an exception that passes writes there); of the records at ex (iterators) nothing is said -/
structure Un (fs ex : List Addr) (H H' : Hp) (h h' : Heap) : Prop where
  keep : ∀ b o, h.get? b = some o → H b = none → b ∉ fs → b ∉ ex → h'.get? b = some o
  slot : ∀ b o, h.get? b = some o → H b = none → b ∈ fs → b ∉ ex → ∃ sl, h'.get? b = some { o with slots := sl }
  free : ∀ b o, h.get? b = some o → H b = none → b ∉ ex → H' b = none
  there : ∀ b o, h.get? b = some o → b ∉ ex → ∃ o', h'.get? b = some o'
  tups : ∀ b xs, H b = some (.tup xs) → H' b = some (.tup xs)
  frzs : ∀ b o u, H b = some (.frz o u) → H' b = some (.frz o u)
  tbls : ∀ b ps, H b = some (.tbl ps) → ∃ more, H' b = some (.tbl (ps ++ more))
section
variable {fs fs' ex ex' : List Addr} {H H1 H2 : Hp} {h h1 h2 h' : Heap} {a x e : Addr} {o : HO}
theorem Un.any (u : Un fs ex H H1 h h1) {b : Addr} {ob : Obj} (q : h.get? b = some ob) (n : H b = none) (hx : b ∉ ex) : ∃ sl, h1.get? b = some { ob with slots := sl } := by
  by_cases hb : b ∈ fs
  · exact u.slot b ob q n hb hx
  · exact ⟨ob.slots, u.keep b ob q n hb hx⟩
theorem Un.kept (k : ∀ b u, h.get? b = some u → h'.get? b = some u) : Un fs ex H H h h' :=
  ⟨fun b ob q _ _ _ => k b ob q, fun b ob q _ _ _ => ⟨ob.slots, k b ob q⟩, fun _ _ _ n _ => n, fun b ob q _ => ⟨ob, k b ob q⟩, fun _ _ q => q, fun _ _ _ q => q, fun _ ps q => ⟨#[], by rw [q]; simp⟩⟩
theorem Un.refl : Un fs ex H H h h := Un.kept fun _ _ q => q
theorem Un.laid (k : ∀ b u, h.get? b = some u → h'.get? b = some u) (hp : h.objs.size ≤ a) (hn : H a = none) : Un fs ex H (upd H a o) h h' where
  keep := fun b u q _ _ _ => k b u q
  slot := fun b u q _ _ _ => ⟨u.slots, k b u q⟩
  free := fun b u q n _ => by rw [upd_ne (Nat.ne_of_lt (Nat.lt_of_lt_of_le (Heap.lt_size q) hp))]; exact n
  there := fun b u q _ => ⟨u, k b u q⟩
  tups := fun b xs q => by rw [upd_ne (ne_of_none q hn)]; exact q
  frzs := fun b u xs q => by rw [upd_ne (ne_of_none q hn)]; exact q
  tbls := fun b ps q => ⟨#[], by rw [upd_ne (ne_of_none q hn), q]; simp⟩
theorem Un.write (mu : Mut (H x)) (he : e = x ∨ H e = some (.own x)) (k : ∀ b u, b ≠ e → h.get? b = some u → h'.get? b = some u) (heo : ∃ u, h'.get? e = some u) : Un fs ex H (upd H x o) h h' := by
  have hx : ∀ b, H b = none → b ≠ x := fun b n z => by subst z; rw [n] at mu; exact mu
  have hb : ∀ b, H b = none → b ≠ e := fun b n z => by
    subst z
    rcases he with r | r
    · exact hx b n r
    · rw [n] at r; cases r
  have hm : ∀ b u, H b = some u → ¬ Mut (some u) → b ≠ x := fun b u q nm z => by subst z; rw [q] at mu; exact nm mu
  refine ⟨fun b u q n _ _ => k b u (hb b n) q, fun b u q n _ _ => ⟨u.slots, k b u (hb b n) q⟩, fun b u q n _ => by rw [upd_ne (hx b n)]; exact n, fun b u q _ => ?_,
    fun b xs q => by rw [upd_ne (hm b _ q fun z => z)]; exact q, fun b u xs q => by rw [upd_ne (hm b _ q fun z => z)]; exact q, fun b ps q => ⟨#[], by rw [upd_ne (hm b _ q fun z => z), q]; simp⟩⟩
  by_cases hbe : b = e
  · subst hbe; exact heo
  · exact ⟨u, k b u hbe q⟩
end

/-! ### the heap without what is tracked -/
noncomputable def trk (h : Heap) (H : Hp) : List Addr := (List.range h.objs.size).filter fun a => (H a).isSome
noncomputable def hidT (h : Heap) (H : Hp) : Heap := PySem.W.hideAll h (trk h H)
theorem hidT_size (h : Heap) (H : Hp) : (hidT h H).objs.size = h.objs.size := PySem.W.hideAll_size _ _
theorem hidT_get {h : Heap} {H : Hp} {b : Addr} {o : Obj} (e : h.get? b = some o) (n : H b = none) : (hidT h H).get? b = some o :=
  PySem.W.hideAll_get _ e fun hm => by
    have q : (H b).isSome = true := (List.mem_filter.mp hm).2
    rw [n] at q; simp at q
theorem of_hidT {h : Heap} {H : Hp} {b : Addr} {o : Obj} (e : (hidT h H).get? b = some o) : h.get? b = some o ∧ H b = none := by
  have e' : h.get? b = some o := PySem.W.of_hideAll (trk h H) e
  refine ⟨e', ?_⟩
  cases q : H b with
  | none => rfl
  | some x =>
    have hm : b ∈ trk h H := List.mem_filter.mpr ⟨List.mem_range.mpr (Heap.lt_size e'), by simp [q]⟩
    have z : (hidT h H).get? b = none := PySem.W.hideAll_none (trk h H) hm
    rw [z] at e; cases e

/-! ### OpenK's ledger, filled with every new object but one -/
end L2

namespace L2
open PySem PySem.Spec PyProof.Rows

/-- the module's facts, over the base: the heap at the law's entry without what is tracked there -/
structure Mod (K : PySem.W.Frag) (mg : Str → Option Value) (base : Heap) : Prop where
  kin : K.In base
  glob : base.Ns mainGlobals mg
  blt : ∃ mb, base.Ns builtinsNs mb ∧ ∀ x : Str, x ≠ "__name__" → mb x = bootBuiltins x
  nolimit : base.NoLimit

/-- the context: a def's body (or a comprehension's block) running. base: fixed through the whole law; s₀, H₀: the entry; outer: the frames whose slots others may change (a def's callers); stack: all frames that run;
   ex: iterators that were made ahead of the entry and are walked here (a comprehension's); fn: the names whose cells were made at the entry (a def: all; a comprehension's block: its own); calm: not within an except suite; pn: pins that every state bears; xe: what is wanted of an exception that leaves the code -/
structure Cx where
  prog : Program
  w : World
  K : PySem.W.Frag
  mg : Str → Option Value
  base : Heap
  A : Around
  N : List Str
  s₀ : Shared
  H₀ : Hp
  env : Env
  outer : List Env
  stack : List Env
  ex : List Addr
  fn : Str → Bool
  calm : Bool
  pn : List (Addr × Obj)
  xe : Value → Shared → Prop
/-- the callers' frames -/
noncomputable def frs (l : List Env) : List Addr := l.filterMap (·.frame)
noncomputable abbrev Cx.fs (X : Cx) : List Addr := frs X.outer

noncomputable def Vis (sc : Scope) (x : Str) : Prop := sc.names.lookup x = some .local ∨ sc.names.lookup x = some .cell ∨ sc.names.lookup x = some .free
noncomputable def Loc (sc : Scope) (x : Str) : Prop := sc.names.lookup x = some .local ∨ sc.names.lookup x = some .cell
noncomputable def Look (env : Env) (h : Heap) (m : Str → Option Value) (x : Str) (u : Value) : Prop :=
  (env.kindOf x = some .local ∧ m x = some u) ∨ ((env.kindOf x = some .cell ∨ env.kindOf x = some .free) ∧ ∃ c, env.cells.lookup x = some c ∧ h.IsCell c (some u))

structure Cx.Ok (X : Cx) : Prop where
  mod : Mod X.K X.mg X.base
  kind : X.env.scope.kind = .function
  glob : X.env.globals = mainGlobals
  blt : X.env.builtins = builtinsNs
  above : X.s₀.heap.objs.size ≤ X.env.locals
  inj : ∀ x y c, X.env.cells.lookup x = some c → X.env.cells.lookup y = some c → x = y
  has : ∀ x, (X.env.kindOf x = some .cell ∨ X.env.kindOf x = some .free) → ∃ c, X.env.cells.lookup x = some c
  cab : ∀ x c, X.fn x = true → X.env.cells.lookup x = some c → X.s₀.heap.objs.size ≤ c
  hd : X.calm = true → X.A.handled = none
  frames : X.A.frames = some X.stack
  stk : X.stack = X.outer ∨ (X.stack = X.env :: X.outer ∧ X.env.frame = some X.env.locals)
  exf : ∀ b ∈ X.ex, b ≠ X.env.locals ∧ ∀ x c, X.env.cells.lookup x = some c → c ≠ b
  bs : ∀ b o, X.base.get? b = some o → X.s₀.heap.get? b = some o ∧ X.H₀ b = none
  bsz : X.base.objs.size ≤ X.s₀.heap.objs.size
  noex : ∀ b o, X.base.get? b = some o → b ∉ X.ex
  exfs : ∀ b ∈ X.ex, b ∉ X.fs
  funs : X.s₀.heap.FunFrames X.base X.outer
  frf : ∀ b ∈ X.fs, X.H₀ b = none

structure Inv (X : Cx) (pins : List (Addr × Obj)) (σ : List (Option V)) (H : Hp) (s : Shared) : Prop where
  ok : X.Ok
  os : s.os = X.s₀.os
  bare : AllBare s.gens
  base : Un X.fs X.ex X.H₀ H X.s₀.heap s.heap
  loc : ∃ m, s.heap.Ns X.env.locals m ∧ ∀ (i : Nat) (x : Str) (v : V), X.N[i]? = some x → σ[i]? = some (some v) → Vis X.env.scope x → ∃ u, RelV v u ∧ Look X.env s.heap m x u
  cell : ∀ x c, X.env.cells.lookup x = some c → ∃ v, s.heap.IsCell c v
  free : H X.env.locals = none
  freeC : ∀ x c, X.env.cells.lookup x = some c → H c = none
  pin : ∀ p ∈ X.pn ++ pins, s.heap.get? p.1 = some p.2 ∧ H p.1 = none ∧ p.1 ≠ X.env.locals ∧ p.1 ∉ X.fs ∧ ∀ v, p.2.data ≠ .cell v
  hok : HOk X.prog X.w H s.heap
  len : σ.length = X.N.length

section
variable {X : Cx} {pins : List (Addr × Obj)} {σ : List (Option V)} {H H' : Hp} {s : Shared} {h' : Heap}

theorem Cx.Ok.nofr (ok : X.Ok) {b : Addr} {o : Obj} (e : X.base.get? b = some o) : b ∉ X.fs := fun hb => by
  have := (ok.funs.mem hb).1
  rw [e] at this; cases this
theorem Inv.bs (I : Inv X pins σ H s) : ∀ b o, X.base.get? b = some o → s.heap.get? b = some o ∧ H b = none := fun b o e =>
  ⟨I.base.keep b o (I.ok.bs b o e).1 (I.ok.bs b o e).2 (I.ok.nofr e) (I.ok.noex b o e), I.base.free b o (I.ok.bs b o e).1 (I.ok.bs b o e).2 (I.ok.noex b o e)⟩
theorem Inv.bk (I : Inv X pins σ H s) : ∀ b o, X.base.get? b = some o → s.heap.get? b = some o := fun b o e => (I.bs b o e).1
theorem Inv.mod (I : Inv X pins σ H s) : Mod X.K X.mg X.base := I.ok.mod
theorem Inv.kIn (I : Inv X pins σ H s) : X.K.In s.heap := I.ok.mod.kin.keeps I.bk
theorem Inv.lt (I : Inv X pins σ H s) : X.env.locals < s.heap.objs.size := let ⟨_, hn, _⟩ := I.loc; hn.lt
theorem Inv.sz (I : Inv X pins σ H s) : X.s₀.heap.objs.size ≤ s.heap.objs.size := Nat.le_trans I.ok.above (Nat.le_of_lt I.lt)
theorem Inv.nofs (I : Inv X pins σ H s) {a : Addr} (h : s.heap.objs.size ≤ a) : a ∉ X.fs := fun hb => by
  obtain ⟨_, o, ho, _⟩ := I.ok.funs.mem hb
  exact absurd (Nat.lt_of_lt_of_le (Heap.lt_size ho) (Nat.le_trans I.sz h)) (Nat.lt_irrefl _)
theorem Inv.cne (I : Inv X pins σ H s) : ∀ x c, X.env.cells.lookup x = some c → c ≠ X.env.locals := fun x c e z => by
  obtain ⟨v, o, ho, hd⟩ := I.cell x c e
  obtain ⟨m, ⟨o', es, ep, ho', hd', _⟩, _⟩ := I.loc
  rw [z, ho'] at ho; cases ho; rw [hd'] at hd; cases hd
theorem Inv.funs (I : Inv X pins σ H s) : s.heap.FunFrames X.base X.outer := by
  have all : ∀ (l : List Env), (∀ b ∈ frs l, b ∈ X.fs) → X.s₀.heap.FunFrames X.base l → s.heap.FunFrames X.base l := by
    intro l
    induction l with
    | nil => intro _ _; trivial
    | cons env r ih =>
      intro hs hl
      obtain ⟨hk, ⟨L, o, hf, hn, ho, hd⟩, hr⟩ := hl
      have hL : L ∈ X.fs := hs L (by unfold frs; rw [List.filterMap_cons, hf]; exact List.mem_cons_self)
      obtain ⟨sl, e⟩ := I.base.slot L o ho (I.ok.frf L hL) hL fun z => I.ok.exfs L z hL
      exact ⟨hk, ⟨L, _, hf, hn, e, hd⟩, ih (fun b hb => hs b (by unfold frs; rw [List.filterMap_cons, hf]; exact List.mem_cons_of_mem _ hb)) hr⟩
  exact all X.outer (fun _ hb => hb) I.ok.funs

/-- the frames that run, for a call -/
theorem Inv.stack (I : Inv X pins σ H s) : s.heap.FunFrames X.base X.stack := by
  rcases I.ok.stk with e | ⟨e, hf⟩
  · rw [e]; exact I.funs
  · rw [e]
    obtain ⟨m, hn, _⟩ := I.loc
    refine .cons (by rw [I.ok.kind]; decide) hf hn ?_ I.funs
    exact Heap.get?_none_of_le (Nat.le_trans I.ok.bsz I.ok.above)
theorem Inv.stkSub (I : Inv X pins σ H s) : ∀ b ∈ frs X.stack, b ∈ X.env.locals :: X.fs := fun b hb => by
  rcases I.ok.stk with e | ⟨e, hf⟩
  · rw [e] at hb; exact List.mem_cons_of_mem _ hb
  · rw [e] at hb
    unfold frs at hb
    rw [List.filterMap_cons, hf] at hb
    exact hb
theorem Inv.stkFree (I : Inv X pins σ H s) : ∀ b ∈ frs X.stack, H b = none := fun b hb => by
  rcases List.mem_cons.mp (I.stkSub b hb) with e | hb
  · rw [e]; exact I.free
  · obtain ⟨_, o, ho, _⟩ := I.ok.funs.mem hb
    exact I.base.free b o ho (I.ok.frf b hb) fun z => I.ok.exfs b z hb

/-- THE STEP: the untracked objects but the frame and the records at ch are kept (the callers' frames up to slots), the frame's map is kept, the new abstract heap is held -/
theorem Inv.step {g' : Array GenState} {t' : Nat} {d' : Drawn} {ch : List Addr} (I : Inv X pins σ H s)
    (hch : ∀ b ∈ ch, (b ∈ X.ex ∨ X.s₀.heap.objs.size ≤ b) ∧ b ≠ X.env.locals ∧ (∀ x c, X.env.cells.lookup x = some c → c ≠ b) ∧ ∀ p ∈ X.pn ++ pins, p.1 ≠ b)
    (keep : ∀ b o, b ≠ X.env.locals → b ∉ X.fs → b ∉ ch → s.heap.get? b = some o → H b = none → h'.get? b = some o)
    (slot : ∀ b o, b ≠ X.env.locals → b ∈ X.fs → b ∉ ch → s.heap.get? b = some o → H b = none → ∃ sl, h'.get? b = some { o with slots := sl }) (free : ∀ b o, b ∉ ch → s.heap.get? b = some o → H b = none → H' b = none)
    (there : ∀ b o, b ∉ ch → s.heap.get? b = some o → ∃ o', h'.get? b = some o')
    (tups : ∀ b xs, H b = some (.tup xs) → H' b = some (.tup xs)) (frzs : ∀ b o u, H b = some (.frz o u) → H' b = some (.frz o u)) (tbls : ∀ b ps, H b = some (.tbl ps) → ∃ more, H' b = some (.tbl (ps ++ more)))
    (ns : ∀ m, s.heap.Ns X.env.locals m → h'.Ns X.env.locals m) (hok : HOk X.prog X.w H' h') (hg : AllBare g') :
    Inv X pins σ H' { s with heap := h', gens := g', drawn := d', toks := t' } := by
  have neL : ∀ b o, X.s₀.heap.get? b = some o → b ≠ X.env.locals := fun b o e => Nat.ne_of_lt (Nat.lt_of_lt_of_le (Heap.lt_size e) I.ok.above)
  have neC : ∀ b o, X.s₀.heap.get? b = some o → b ∉ X.ex → b ∉ ch := fun b o e hx hb => by
    rcases (hch b hb).1 with z | z
    · exact hx z
    · exact absurd (Nat.lt_of_lt_of_le (Heap.lt_size e) z) (Nat.lt_irrefl _)
  have cellK : ∀ x c, X.env.cells.lookup x = some c → ∀ v, s.heap.IsCell c v → h'.IsCell c v := fun x c e v ⟨o, ho, hd⟩ => by
    have nch : c ∉ ch := fun z => (hch c z).2.2.1 x c e rfl
    by_cases hc : c ∈ X.fs
    · obtain ⟨sl, q⟩ := slot c o (I.cne x c e) hc nch ho (I.freeC x c e)
      exact ⟨_, q, hd⟩
    · exact ⟨o, keep c o (I.cne x c e) hc nch ho (I.freeC x c e), hd⟩
  refine ⟨I.ok, I.os, hg, ⟨fun b o e n hb hx => ?_, fun b o e n hb hx => ?_, fun b o e n hx => ?_, fun b o e hx => ?_, fun b xs e => tups b xs (I.base.tups b xs e), fun b o xs e => frzs b o xs (I.base.frzs b o xs e), fun b ps e => ?_⟩, ?_, fun x c e => ?_, ?_, fun x c e => ?_, fun p hp => ?_, hok, I.len⟩
  · exact keep b o (neL b o e) hb (neC b o e hx) (I.base.keep b o e n hb hx) (I.base.free b o e n hx)
  · obtain ⟨sl, e1⟩ := I.base.slot b o e n hb hx
    obtain ⟨sl', e2⟩ := slot b _ (neL b o e) hb (neC b o e hx) e1 (I.base.free b o e n hx)
    exact ⟨sl', e2⟩
  · obtain ⟨o', e1⟩ := I.base.there b o e hx
    exact free b o' (neC b o e hx) e1 (I.base.free b o e n hx)
  · obtain ⟨o', e1⟩ := I.base.there b o e hx
    exact there b o' (neC b o e hx) e1
  · obtain ⟨m1, e1⟩ := I.base.tbls b ps e
    obtain ⟨m2, e2⟩ := tbls b _ e1
    exact ⟨m1 ++ m2, by rw [e2, Array.append_assoc]⟩
  · obtain ⟨m, hn, hl⟩ := I.loc
    refine ⟨m, ns m hn, fun i x v e1 e2 e3 => ?_⟩
    obtain ⟨u, r, l⟩ := hl i x v e1 e2 e3
    refine ⟨u, r, ?_⟩
    rcases l with l | ⟨k, c, e, z⟩
    · exact .inl l
    · exact .inr ⟨k, c, e, cellK x c e _ z⟩
  · obtain ⟨v, z⟩ := I.cell x c e
    exact ⟨v, cellK x c e v z⟩
  · obtain ⟨m, ⟨o, _, _, ho, _⟩, _⟩ := I.loc
    exact free _ o (fun z => (hch _ z).2.1 rfl) ho I.free
  · obtain ⟨v, o, ho, hd⟩ := I.cell x c e
    exact free c o (fun z => (hch c z).2.2.1 x c e rfl) ho (I.freeC x c e)
  · obtain ⟨e, n, ne, nf, d⟩ := I.pin p hp
    have nch : p.1 ∉ ch := fun z => (hch p.1 z).2.2.2 p hp rfl
    exact ⟨keep p.1 p.2 ne nf nch e n, free p.1 p.2 nch e n, ne, nf, d⟩
/-- .. where the frame's own object is kept too -/
theorem Inv.un {t' : Nat} (I : Inv X pins σ H s) (u : Un X.fs [] H H' s.heap h') (hok : HOk X.prog X.w H' h') : Inv X pins σ H' { s with heap := h', toks := t' } := by
  obtain ⟨m, ⟨o, es, ep, ho, r⟩, _⟩ := id I.loc
  obtain ⟨sl, hL⟩ := u.any ho I.free (by simp)
  exact I.step (g' := s.gens) (d' := s.drawn) (ch := []) (fun _ z => nomatch z) (fun b o _ hb _ e n => u.keep b o e n hb (by simp)) (fun b o _ hb _ e n => u.slot b o e n hb (by simp)) (fun b o _ e n => u.free b o e n (by simp)) (fun b o _ e => u.there b o e (by simp)) u.tups u.frzs u.tbls (fun m' hm => by
    obtain ⟨o', es', ep', ho', r'⟩ := hm
    rw [ho] at ho'; cases ho'
    exact ⟨_, es', ep', hL, r'⟩) hok I.bare
/-- behind a call (or a comprehension's block): the slots of this frame may have changed too, the records at ch may have turned -/
theorem Inv.call {g' : Array GenState} {t' : Nat} {d' : Drawn} {ch : List Addr} (I : Inv X pins σ H s) (u : Un (frs X.stack) ch H H' s.heap h') (hok : HOk X.prog X.w H' h') (hg : AllBare g')
    (hch : ∀ b ∈ ch, (b ∈ X.ex ∨ X.s₀.heap.objs.size ≤ b) ∧ b ≠ X.env.locals ∧ (∀ x c, X.env.cells.lookup x = some c → c ≠ b) ∧ ∀ p ∈ X.pn ++ pins, p.1 ≠ b) :
    Inv X pins σ H' { s with heap := h', gens := g', drawn := d', toks := t' } := by
  obtain ⟨m, ⟨o, es, ep, ho, r⟩, _⟩ := id I.loc
  obtain ⟨sl, hL⟩ := u.any ho I.free fun z => (hch _ z).2.1 rfl
  exact I.step (ch := ch) hch (fun b o hL hb hc e n => u.keep b o e n (fun z => (List.mem_cons.mp (I.stkSub b z)).elim hL hb) hc) (fun b o _ _ hc e n => u.any e n hc) (fun b o hc e n => u.free b o e n hc) (fun b o hc e => u.there b o e hc) u.tups u.frzs u.tbls (fun m' hm => by
    obtain ⟨o', es', ep', ho', r'⟩ := hm
    rw [ho] at ho'; cases ho'
    exact ⟨_, es', ep', hL, r'⟩) hok hg
/-- an untracked record of ours (an iterator) has turned -/
theorem Inv.turned {t' : Nat} {it : Addr} (I : Inv X pins σ H s) (k : ∀ b o, b ≠ it → s.heap.get? b = some o → h'.get? b = some o) (hn : H it = none) (hL : it ≠ X.env.locals)
    (h1 : it ∈ X.ex ∨ X.s₀.heap.objs.size ≤ it) (h2 : ∀ x c, X.env.cells.lookup x = some c → c ≠ it) (h3 : ∀ p ∈ X.pn ++ pins, p.1 ≠ it) : Inv X pins σ H { s with heap := h', toks := t' } := by
  have nit : ∀ b u, H b = some u → b ≠ it := fun b u e z => by rw [z, hn] at e; cases e
  refine I.step (g' := s.gens) (d' := s.drawn) (ch := [it]) (fun b hb => ?_) (fun b o _ _ hc e _ => k b o (fun z => hc (by simp [z])) e) (fun b o _ _ hc e _ => ⟨o.slots, k b o (fun z => hc (by simp [z])) e⟩) (fun _ _ _ _ n => n)
    (fun b o hc e => ⟨o, k b o (fun z => hc (by simp [z])) e⟩) (fun _ _ e => e) (fun _ _ _ e => e) (fun b ps e => ⟨#[], by rw [e]; simp⟩) (fun m hm => ?_) (fun b u e => ?_) I.bare
  · have e : b = it := by simpa using hb
    subst e
    exact ⟨h1, hL, h2, h3⟩
  · obtain ⟨o, es, ep, ho, r⟩ := hm
    exact ⟨o, es, ep, k _ o (Ne.symm hL) ho, r⟩
  · refine (I.hok b u e).stay (fun c v hc q => k c v ?_ q) (fun _ q => q) fun _ _ q => q
    rcases hc with z | z
    · rw [z]; exact nit b u e
    · exact nit c _ z
theorem Inv.tok (I : Inv X pins σ H s) (t : Nat) : Inv X pins σ H { s with toks := t } := I.un (h' := s.heap) (t' := t) Un.refl I.hok
/-- all objects kept -/
theorem Inv.kept {t' : Nat} (I : Inv X pins σ H s) (k : ∀ b u, s.heap.get? b = some u → h'.get? b = some u) : Inv X pins σ H { s with heap := h', toks := t' } := I.un (Un.kept k) (I.hok.kept k)
/-- a new object laid and tracked -/
theorem Inv.laid {a : Addr} {o : HO} {t' : Nat} (I : Inv X pins σ H s) (k : ∀ b u, s.heap.get? b = some u → h'.get? b = some u) (hp : s.heap.objs.size ≤ a) (new : ObjOk X.prog X.w (upd H a o) h' a o) :
    Inv X pins σ (upd H a o) { s with heap := h', toks := t' } := I.un (Un.laid k hp (I.hok.fresh hp)) (I.hok.laid k hp new)
/-- an object written -/
theorem Inv.write {x e : Addr} {o : HO} {t' : Nat} (I : Inv X pins σ H s) (mu : Mut (H x)) (he : e = x ∨ H e = some (.own x)) (k : ∀ b u, b ≠ e → s.heap.get? b = some u → h'.get? b = some u) (heo : ∃ u, h'.get? e = some u)
    (new : ObjOk X.prog X.w (upd H x o) h' x o) : Inv X pins σ (upd H x o) { s with heap := h', toks := t' } := I.un (Un.write mu he k heo) (I.hok.write mu he k heo new)
theorem Inv.pins_of {pins' : List (Addr × Obj)} (I : Inv X pins σ H s) (h : ∀ p ∈ pins', s.heap.get? p.1 = some p.2 ∧ H p.1 = none ∧ p.1 ≠ X.env.locals ∧ p.1 ∉ X.fs ∧ ∀ v, p.2.data ≠ .cell v) : Inv X pins' σ H s :=
  ⟨I.ok, I.os, I.bare, I.base, I.loc, I.cell, I.free, I.freeC, fun p hp => (List.mem_append.mp hp).elim (fun z => I.pin p (List.mem_append_left _ z)) (h p), I.hok, I.len⟩

theorem nodup_ix {N : List Str} (hN : N.Nodup) {i j : Nat} {x : Str} (a : N[i]? = some x) (b : N[j]? = some x) : i = j := by
  obtain ⟨h1, e1⟩ := List.getElem?_eq_some_iff.mp a
  obtain ⟨h2, e2⟩ := List.getElem?_eq_some_iff.mp b
  exact (List.getElem_inj hN).mp (e1.trans e2.symm)

/-- a name is stored; what changed -/
theorem store_ok2 {M : Model} {A : Around} {E : Value → Shared → Prop} {i : Nat} {x : Str} {v : V} {u : Value} {Q : Unit → Shared → Prop} (I : Inv X pins σ H s) (hN : X.N.Nodup) (hi : X.N[i]? = some x) (hx : Loc X.env.scope x) (r : RelV v u)
    (h : ∀ s', Inv X pins (σ.set i (some v)) H s' → (∃ a, Heap.SameBut a s.heap s'.heap ∧ (a = X.env.locals ∨ X.env.cells.lookup x = some a)) → Q () s') (hf : X.fn x = true ∨ X.env.scope.names.lookup x = some .local := by first | exact .inl rfl | exact .inr rfl | assumption) : wpAny M A (storeName X.env x u) Q E s := by
  obtain ⟨m, hn, hl⟩ := id I.loc
  have hcls : (X.env.scope.kind == .class || (X.env.scope.kind == .module && X.env.locals != X.env.globals)) = false := by rw [I.ok.kind]; rfl
  have hiσ : i < σ.length := by rw [I.len]; exact (List.getElem?_eq_some_iff.mp hi).1
  have cne := I.cne
  have tracked : ∀ {a : Addr} {h' : Heap}, (∃ o, s.heap.get? a = some o ∧ H a = none) → Heap.SameBut a s.heap h' → HOk X.prog X.w H h' := fun {a h'} ha hs b ob e => by
    obtain ⟨_, _, hfree⟩ := ha
    refine (I.hok b ob e).stay (fun c w' hc q => (hs.2 c ?_).trans q) (fun _ q => q) fun _ _ q => q
    rintro rfl
    rcases hc with rfl | hc
    · rw [hfree] at e; cases e
    · rw [hfree] at hc; cases hc
  rcases hx with hk | hk
  · refine wpAny_storeName_local hk hn (fun h' hn' hs => ?_) hcls
    obtain ⟨oL, _, _, hoL, _⟩ := id hn
    refine h _ ⟨I.ok, I.os, I.bare, ⟨fun b o e n hb hx => ?_, fun b o e n hb hx => ?_, I.base.free, fun b o e hx => ?_, I.base.tups, I.base.frzs, I.base.tbls⟩, ⟨_, hn', fun j y v' e1 e2 e3 => ?_⟩, fun y c e => ?_, I.free, I.freeC, fun p hp => ?_, tracked ⟨oL, hoL, I.free⟩ hs, by simpa using I.len⟩ ⟨_, hs, .inl rfl⟩
    · exact (hs.2 b (Nat.ne_of_lt (Nat.lt_of_lt_of_le (Heap.lt_size e) I.ok.above))).trans (I.base.keep b o e n hb hx)
    · obtain ⟨sl, e1⟩ := I.base.slot b o e n hb hx
      exact ⟨sl, (hs.2 b (Nat.ne_of_lt (Nat.lt_of_lt_of_le (Heap.lt_size e) I.ok.above))).trans e1⟩
    · obtain ⟨o', e1⟩ := I.base.there b o e hx
      exact ⟨o', (hs.2 b (Nat.ne_of_lt (Nat.lt_of_lt_of_le (Heap.lt_size e) I.ok.above))).trans e1⟩
    · by_cases hj : j = i
      · subst hj
        rw [hi] at e1; cases e1
        rw [List.getElem?_set_self hiσ] at e2
        cases e2
        exact ⟨u, r, .inl ⟨hk, by simp⟩⟩
      · rw [List.getElem?_set_ne (Ne.symm hj)] at e2
        obtain ⟨u', r', q⟩ := hl j y v' e1 e2 e3
        refine ⟨u', r', ?_⟩
        rcases q with ⟨k, e⟩ | ⟨k, c, e, z⟩
        · refine .inl ⟨k, ?_⟩
          have : y ≠ x := fun e => hj (nodup_ix hN e1 (e ▸ hi))
          simp [this, e]
        · exact .inr ⟨k, c, e, z.sameBut hs (cne y c e)⟩
    · obtain ⟨w', z⟩ := I.cell y c e
      exact ⟨w', z.sameBut hs (cne y c e)⟩
    · obtain ⟨e, n, ne, nf, d⟩ := I.pin p hp
      exact ⟨(hs.2 p.1 ne).trans e, n, ne, nf, d⟩
  · have hfn : X.fn x = true := by
      rcases hf with z | z
      · exact z
      · rw [z] at hk; cases hk
    obtain ⟨c, hc⟩ := I.ok.has x (.inl hk)
    obtain ⟨w', z⟩ := I.cell x c hc
    refine wpAny_storeName_cell I.ok.kind hk hc z (fun h' hc' hs => ?_)
    obtain ⟨oc, hoc, hocd⟩ := id z
    refine h { s with heap := h' } ⟨I.ok, I.os, I.bare, ⟨fun b o e n hb hx => ?_, fun b o e n hb hx => ?_, I.base.free, fun b o e hx => ?_, I.base.tups, I.base.frzs, I.base.tbls⟩, ⟨m, hn.sameBut hs (Ne.symm (cne x c hc)), fun j y v' e1 e2 e3 => ?_⟩, fun y c' e => ?_, I.free, I.freeC, fun p hp => ?_, tracked ⟨oc, hoc, I.freeC x c hc⟩ hs, by simpa using I.len⟩ ⟨c, hs, .inr hc⟩
    · exact (hs.2 b (Nat.ne_of_lt (Nat.lt_of_lt_of_le (Heap.lt_size e) (I.ok.cab x c hfn hc)))).trans (I.base.keep b o e n hb hx)
    · obtain ⟨sl, e1⟩ := I.base.slot b o e n hb hx
      exact ⟨sl, (hs.2 b (Nat.ne_of_lt (Nat.lt_of_lt_of_le (Heap.lt_size e) (I.ok.cab x c hfn hc)))).trans e1⟩
    · obtain ⟨o', e1⟩ := I.base.there b o e hx
      exact ⟨o', (hs.2 b (Nat.ne_of_lt (Nat.lt_of_lt_of_le (Heap.lt_size e) (I.ok.cab x c hfn hc)))).trans e1⟩
    · by_cases hj : j = i
      · subst hj
        rw [hi] at e1; cases e1
        rw [List.getElem?_set_self hiσ] at e2
        cases e2
        exact ⟨u, r, .inr ⟨.inl hk, c, hc, hc'⟩⟩
      · rw [List.getElem?_set_ne (Ne.symm hj)] at e2
        obtain ⟨u', r', q⟩ := hl j y v' e1 e2 e3
        refine ⟨u', r', ?_⟩
        rcases q with q | ⟨k, c', e, z'⟩
        · exact .inl q
        · refine .inr ⟨k, c', e, z'.sameBut hs ?_⟩
          rintro rfl
          exact hj (nodup_ix hN e1 (I.ok.inj _ _ _ e hc ▸ hi))
    · by_cases hcc : c' = c
      · subst hcc; exact ⟨_, hc'⟩
      · obtain ⟨w2, z2⟩ := I.cell y c' e
        exact ⟨w2, z2.sameBut hs hcc⟩
    · obtain ⟨e, n, ne, nf, d⟩ := I.pin p hp
      refine ⟨(hs.2 p.1 ?_).trans e, n, ne, nf, d⟩
      intro q
      rw [q, hoc] at e
      have q' : oc = p.2 := Option.some.inj e
      exact d w' (by rw [← q']; exact hocd)
theorem store_ok {M : Model} {A : Around} {E : Value → Shared → Prop} {i : Nat} {x : Str} {v : V} {u : Value} {Q : Unit → Shared → Prop} (I : Inv X pins σ H s) (hN : X.N.Nodup) (hi : X.N[i]? = some x) (hx : Loc X.env.scope x) (r : RelV v u)
    (h : ∀ s', Inv X pins (σ.set i (some v)) H s' → Q () s') (hf : X.fn x = true ∨ X.env.scope.names.lookup x = some .local := by first | exact .inl rfl | exact .inr rfl | assumption) : wpAny M A (storeName X.env x u) Q E s :=
  store_ok2 I hN hi hx r (fun s' I' _ => h s' I') hf
/-- behind a call or a block, the state as it is -/
theorem Inv.call' {s' : Shared} {ch : List Addr} (I : Inv X pins σ H s) (ho : s'.os = s.os) (u : Un (frs X.stack) ch H H' s.heap s'.heap) (hok : HOk X.prog X.w H' s'.heap) (hg : AllBare s'.gens)
    (hch : ∀ b ∈ ch, (b ∈ X.ex ∨ X.s₀.heap.objs.size ≤ b) ∧ b ≠ X.env.locals ∧ (∀ x c, X.env.cells.lookup x = some c → c ≠ b) ∧ ∀ p ∈ X.pn ++ pins, p.1 ≠ b) : Inv X pins σ H' s' := by
  obtain ⟨h', g', d', t', o'⟩ := s'
  have e : o' = s.os := ho
  subst e
  exact I.call (g' := g') (t' := t') (d' := d') u hok hg hch
end

/-! ### the judgements -/
/-- an exception: its class, its own dict's address (where it has one), the abstract heap behind it -/
noncomputable abbrev XK := Value → Option Addr → Hp → Prop
noncomputable abbrev St := List (Option V)
noncomputable abbrev VK := V → Hp → Prop
/-- an expression's reading; a test's; an argument list's -/
noncomputable abbrev TE := St → Hp → VK → Prop
noncomputable abbrev TT := St → Hp → (Bool → Hp → Prop) → Prop
noncomputable abbrev TA := St → Hp → (List V → Hp → Prop) → Prop
/-- what is wanted behind a statement -/
structure Ends where
  nx : St → Hp → Prop
  rt : VK
  bk : St → Hp → Prop := fun _ _ => False
  ct : St → Hp → Prop := fun _ _ => False
noncomputable abbrev TS := Ends → St → Hp → Prop

noncomputable def EP (X : Cx) (pins : List (Addr × Obj)) (σ : St) (Q : VK) (u : Value) (s' : Shared) : Prop := ∃ v H', Inv X pins σ H' s' ∧ RelV v u ∧ Q v H'
noncomputable def TP (X : Cx) (pins : List (Addr × Obj)) (σ : St) (Q : Bool → Hp → Prop) (b : Bool) (s' : Shared) : Prop := ∃ H', Inv X pins σ H' s' ∧ Q b H'
noncomputable def AP (X : Cx) (pins : List (Addr × Obj)) (σ : St) (Q : List V → Hp → Prop) (us : List Value) (s' : Shared) : Prop := ∃ vs H', Inv X pins σ H' s' ∧ Vals vs us ∧ Q vs H'
noncomputable def SP (X : Cx) (pins : List (Addr × Obj)) (D : Ends) (f : Flow) (s' : Shared) : Prop :=
  match f with
  | .next => ∃ σ' H', Inv X pins σ' H' s' ∧ D.nx σ' H'
  | .brk => ∃ σ' H', Inv X pins σ' H' s' ∧ D.bk σ' H'
  | .cont => ∃ σ' H', Inv X pins σ' H' s' ∧ D.ct σ' H'
  | .ret u => ∃ v σ' H', Inv X pins σ' H' s' ∧ RelV v u ∧ D.rt v H'

noncomputable def PE (X : Cx) (e : Expr) (t : TE) : Prop :=
  ∀ (pins : List (Addr × Obj)) (s : Shared) (σ : St) (H : Hp) (Q : VK), Inv X pins σ H s → t σ H Q → wpAny (model X.prog X.w) X.A (eval e X.env) (EP X pins σ Q) X.xe s
noncomputable def PT (X : Cx) (e : Expr) (t : TT) : Prop :=
  ∀ (pins : List (Addr × Obj)) (s : Shared) (σ : St) (H : Hp) (Q : Bool → Hp → Prop), Inv X pins σ H s → t σ H Q → wpAny (model X.prog X.w) X.A (isTrue e X.env (eval e X.env)) (TP X pins σ Q) X.xe s
/-- a test whatever its 'whole' is (and, or) -/
noncomputable def PW (X : Cx) (e : Expr) (t : TT) : Prop :=
  ∀ (whole : Sem Value) (pins : List (Addr × Obj)) (s : Shared) (σ : St) (H : Hp) (Q : Bool → Hp → Prop), Inv X pins σ H s → t σ H Q → wpAny (model X.prog X.w) X.A (isTrue e X.env whole) (TP X pins σ Q) X.xe s
theorem PW.pt {X : Cx} {e : Expr} {t : TT} (h : PW X e t) : PT X e t := h _
/-- an argument list (no star), from the left -/
noncomputable def PA (X : Cx) (es : List Expr) (t : TA) : Prop :=
  ∀ (pos : Pos) (pins : List (Addr × Obj)) (s : Shared) (σ : St) (H : Hp) (Q : List V → Hp → Prop), Inv X pins σ H s → t σ H Q → wpAny (model X.prog X.w) X.A (spliced (backTo pos (starEach es X.env))) (AP X pins σ Q) X.xe s
noncomputable def PS (X : Cx) (st : Stmt) (t : TS) : Prop :=
  ∀ (pins : List (Addr × Obj)) (s : Shared) (σ : St) (H : Hp) (D : Ends), Inv X pins σ H s → t D σ H → wpAny (model X.prog X.w) X.A (exec st X.env) (SP X pins D) X.xe s
noncomputable def PSs (X : Cx) (st : List Stmt) (t : TS) : Prop :=
  ∀ (pins : List (Addr × Obj)) (s : Shared) (σ : St) (H : Hp) (D : Ends), Inv X pins σ H s → t D σ H → wpAny (model X.prog X.w) X.A (execs st X.env) (SP X pins D) X.xe s
/-- weaken the end -/
theorem thn {α : Type} {t : Sem α} {Q Q' : α → Shared → Prop} {M : Model} {A : Around} {E : Value → Shared → Prop} {s : Shared} (h : wpAny M A t Q E s) (hQ : ∀ a s, Q a s → Q' a s) : wpAny M A t Q' E s := wpAny_mono h hQ fun _ _ x => x
end L2

namespace L2
open PySem PySem.Spec PyProof.Rows
section
variable {X : Cx}


/-! ### names and constants -/
noncomputable def tVar (i : Nat) : TE := fun σ H Q => ∃ v, σ[i]? = some (some v) ∧ Q v H
noncomputable def tC (v : V) : TE := fun _ H Q => Q v H
theorem pe_var {i : Nat} {x : Str} {pos : Pos} (hN : X.N[i]? = some x) (hv : Vis X.env.scope x) (hd : (x == ("__debug__" : Str)) = false := by decide) (hcd : (x == ("__classdict__" : Str)) = false := by decide) : PE X (.Name x pos) (tVar i) := by
  intro pins s σ H Q I h
  obtain ⟨v, e, h⟩ := h
  obtain ⟨m, hn, hl⟩ := I.loc
  obtain ⟨u, r, l⟩ := hl i x v hN e hv
  have fin : EP X pins σ Q u s := ⟨v, H, I, r, h⟩
  rcases l with ⟨hk, hm⟩ | ⟨hk, c, hc, hcell⟩
  · exact wpAny_Name (wpAny_loadName_local I.ok.kind hk hn hm fin) hd
  · rcases hk with hk | hk
    · exact wpAny_Name (wpAny_loadName_cell I.ok.kind hk hc hcell fin) hd
    · exact wpAny_Name (wpAny_loadName_free I.ok.kind hk hc hcell fin hcd) hd
theorem pe_int {i j pos} : PE X (.Constant (.int i) j pos) (tC (.int i)) := fun _ _ _ H _ I h => wpAny_Constant_int ⟨.int i, H, I.tok _, ⟨_, rfl⟩, h⟩
theorem pe_bl {b j pos} : PE X (.Constant (.bool b) j pos) (tC (.bl b)) := fun _ _ _ H _ I h => Constant_bool ⟨.bl b, H, I, rfl, h⟩
theorem pe_non {j pos} : PE X (.Constant .none j pos) (tC .non) := fun _ _ _ H _ I h => Constant_none ⟨.non, H, I, rfl, h⟩
theorem pe_str {x j pos} : PE X (.Constant (.str x) j pos) (tC (.str x)) := fun _ _ _ H _ I h => Calls.Constant_str ⟨.str x, H, I.tok _, ⟨_, rfl⟩, h⟩

/-- a global name of the def -/
noncomputable def Gl (X : Cx) (x : Str) : Prop := X.env.kindOf x = some .globalImplicit
theorem ld_glob {E : Value → Shared → Prop} {pins : List (Addr × Obj)} {s : Shared} {σ : St} {H : Hp} {x : Str} {u : Value} {pos : Pos} {Q : Value → Shared → Prop} (I : Inv X pins σ H s) (hg : Gl X x) (hm : X.mg x = some u) (h : Q u s)
    (hd : (x == ("__debug__" : Str)) = false := by decide) : wpAny (model X.prog X.w) X.A (eval (.Name x pos) X.env) Q E s :=
  Calls.Name_function_global I.ok.kind hg (Calls.loadGlobal_global (by rw [I.ok.glob]; exact I.mod.glob.keeps I.bk) hm h) hd
theorem ld_blt {E : Value → Shared → Prop} {pins : List (Addr × Obj)} {s : Shared} {σ : St} {H : Hp} {x : Str} {u : Value} {pos : Pos} {Q : Value → Shared → Prop} (I : Inv X pins σ H s) (hg : Gl X x) (hm : X.mg x = none) (hv : bootBuiltins x = some u) (h : Q u s)
    (hn : x ≠ "__name__" := by decide) (hd : (x == ("__debug__" : Str)) = false := by decide) : wpAny (model X.prog X.w) X.A (eval (.Name x pos) X.env) Q E s := by
  obtain ⟨mb, h1, h2⟩ := I.mod.blt
  exact Calls.Name_function_global I.ok.kind hg (Calls.loadGlobal_builtin (by rw [I.ok.glob]; exact I.mod.glob.keeps I.bk) hm (by rw [I.ok.blt]; exact h1.keeps I.bk) ((h2 x hn).trans hv) h) hd
/-- a module's constant, a class, a function, as a value -/
theorem pe_glob {x : Str} {v : V} {u : Value} {pos : Pos} (hg : Gl X x) (hm : X.mg x = some u) (r : RelV v u) (hd : (x == ("__debug__" : Str)) = false := by decide) : PE X (.Name x pos) (tC v) :=
  fun _ _ _ H _ I h => ld_glob I hg hm ⟨v, H, I, r, h⟩ hd
theorem pe_bltn {x : Str} {v : V} {u : Value} {pos : Pos} (hg : Gl X x) (hm : X.mg x = none) (hv : bootBuiltins x = some u) (r : RelV v u) (hn : x ≠ "__name__" := by decide) (hd : (x == ("__debug__" : Str)) = false := by decide) : PE X (.Name x pos) (tC v) :=
  fun _ _ _ H _ I h => ld_blt I hg hm hv ⟨v, H, I, r, h⟩ hn hd

/-! ### arithmetic -/
variable {a b : Expr} {ta tb : TE} {pos : Pos}

/-! ### comparisons -/
/-- a comparison as a value, as a test -/
noncomputable def tB (t : TE) : TT := fun σ H Q => t σ H fun x H1 => ∃ c, x = .bl c ∧ Q c H1
/-- an expression whose value is a bool, as a test -/
theorem pt_val {e : Expr} {t : TE} (h : PE X e t) (he : ∀ whole, isTrue e X.env whole = (do let v ← whole; standAt e.pos; holding [v] (truthy v)) := by intro _; rfl) : PT X e (tB t) := by
  intro pins s σ H Q I hw
  refine isTrue_plain (thn (h pins s σ H _ I hw) fun v s1 ⟨x, H1, I1, r1, q1⟩ => ?_) (he _)
  obtain ⟨d, rfl, q⟩ := q1
  cases r1
  exact wpAny_truthy_bool ⟨H1, I1, q⟩

/-! ### and, or, not -/
variable {tA tB' : TT} {rest : List Expr}
noncomputable def tAnd (t u : TT) : TT := fun σ H Q => t σ H fun c H1 => if c = true then u σ H1 Q else Q false H1
noncomputable def tOr (t u : TT) : TT := fun σ H Q => t σ H fun c H1 => if c = true then Q true H1 else u σ H1 Q
noncomputable def tNot (t : TT) : TT := fun σ H Q => t σ H fun c H1 => Q (!c) H1
theorem pw_and1 (ha : PT X a tA) : PW X (.BoolOp .And [a] pos) tA := by
  intro wh pins s σ H Q I h
  refine isTrue_and (thn (ha pins s σ H Q I h) fun c s1 e => ?_)
  cases c with
  | true => exact isTrue_and_nil e
  | false => exact e
theorem pw_or1 (ha : PT X a tA) : PW X (.BoolOp .Or [a] pos) tA := by
  intro wh pins s σ H Q I h
  refine isTrue_or (thn (ha pins s σ H Q I h) fun c s1 e => ?_)
  cases c with
  | false => exact isTrue_or_nil e
  | true => exact e
theorem pw_and (ha : PT X a tA) (hb : PW X (.BoolOp .And (b :: rest) pos) tB') : PW X (.BoolOp .And (a :: b :: rest) pos) (tAnd tA tB') := by
  intro wh pins s σ H Q I h
  refine isTrue_and (thn (ha pins s σ H _ I h) fun c s1 ⟨H1, I1, q1⟩ => ?_)
  cases c with
  | true => exact hb wh pins s1 σ H1 Q I1 q1
  | false => exact ⟨H1, I1, q1⟩
theorem pw_or (ha : PT X a tA) (hb : PW X (.BoolOp .Or (b :: rest) pos) tB') : PW X (.BoolOp .Or (a :: b :: rest) pos) (tOr tA tB') := by
  intro wh pins s σ H Q I h
  refine isTrue_or (thn (ha pins s σ H _ I h) fun c s1 ⟨H1, I1, q1⟩ => ?_)
  cases c with
  | true => exact ⟨H1, I1, q1⟩
  | false => exact hb wh pins s1 σ H1 Q I1 q1
theorem pt_not (ha : PT X a tA) : PT X (.UnaryOp .Not a pos) (tNot tA) := by
  intro pins s σ H Q I h
  exact isTrue_not (ha pins s σ H (fun c H1 => Q (!c) H1) I h)
/-- .. as values (bools) -/
noncomputable def tAndV (ta tb : TE) : TE := fun σ H Q => ta σ H fun x H1 => ∃ c, x = .bl c ∧ if c = true then tb σ H1 Q else Q (.bl false) H1
noncomputable def tNotV (ta : TE) : TE := fun σ H Q => ta σ H fun x H1 => ∃ c, x = .bl c ∧ Q (.bl (!c)) H1
theorem pe_one {op} {t : TE} (h : PE X a t) : PE X (.BoolOp op [a] pos) t := fun pins s σ H Q I hw => BoolOp_one (h pins s σ H Q I hw)
theorem pe_and (ha : PE X a ta) (hb : PE X (.BoolOp .And (b :: rest) pos) tb) : PE X (.BoolOp .And (a :: b :: rest) pos) (tAndV ta tb) := by
  intro pins s σ H Q I h
  refine BoolOp_and (thn (ha pins s σ H _ I h) fun v s1 ⟨x, H1, I1, r1, q1⟩ => ?_)
  obtain ⟨c, rfl, q1⟩ := q1
  cases r1
  refine wpAny_truthy_bool ?_
  cases c with
  | true => exact hb pins s1 σ H1 Q I1 q1
  | false => exact ⟨.bl false, H1, I1, rfl, q1⟩
theorem pe_not (ha : PE X a ta) : PE X (.UnaryOp .Not a pos) (tNotV ta) := by
  intro pins s σ H Q I h
  refine UnaryOp_ (thn (ha pins s σ H _ I h) fun v s1 ⟨x, H1, I1, r1, q1⟩ => ?_)
  obtain ⟨c, rfl, q1⟩ := q1
  cases r1
  exact not_of (wpAny_truthy_bool ⟨.bl (!c), H1, I1, rfl, q1⟩)
end
end L2

namespace L2
open PySem PySem.Spec PyProof.Rows

/-! ### a list, a tuple that is read: tracked, frozen, or an object of the module -/
noncomputable def SqL (K : PySem.W.Frag) (H : Hp) (a : Addr) (xs : List V) : Prop :=
  Rd H a (.lst xs) ∨
    ∃ (o : Obj) (its : Array Value) (n : Nat), K.lookup a = some o ∧ o.cls = .type "list" ∧ o.dict = none ∧ o.data = .seq its n ∧ its.size ≤ sizeLine ∧ Vals xs its.toList
noncomputable def SqT (K : PySem.W.Frag) (H : Hp) (a : Addr) (xs : List V) : Prop :=
  Rd H a (.tup xs) ∨
    ∃ (o : Obj) (its : Array Value) (n : Nat), K.lookup a = some o ∧ o.cls = .type "tuple" ∧ o.data = .seq its n ∧ its.size ≤ sizeLine ∧ Vals xs its.toList
noncomputable def absV : Value → Option V
  | .none => some .non
  | .bool b => some (.bl b)
  | .int i _ => some (.int i)
  | .str x _ => some (.str x)
  | .bytes b _ => some (.byt b)
  | .float b _ => some (.flt b)
  | .ref a => some (.ref a)
  | .type n => some (.ty n)
  | _ => none
theorem RelV.abs {x : V} {u : Value} (r : RelV x u) : absV u = some x := by
  cases x with
  | non => cases r; rfl
  | bl _ => cases r; rfl
  | int _ => obtain ⟨t, rfl⟩ := r; rfl
  | str _ => obtain ⟨t, rfl⟩ := r; rfl
  | byt _ => obtain ⟨t, rfl⟩ := r; rfl
  | flt _ => obtain ⟨t, rfl⟩ := r; rfl
  | ref _ => cases r; rfl
  | ty _ => cases r; rfl
theorem RelV.inj {x y : V} {u : Value} (r : RelV x u) (q : RelV y u) : x = y := Option.some.inj (r.abs.symm.trans q.abs)
theorem Vals.inj : ∀ {xs ys : List V} {us : List Value}, Vals xs us → Vals ys us → xs = ys
  | _, _, _, .nil, .nil => rfl
  | _, _, _, .cons r t, .cons r' t' => by rw [r.inj r', Vals.inj t t']
section
variable {X : Cx} {pins : List (Addr × Obj)} {σ : St} {H : Hp} {s : Shared} {a : Addr} {xs ys : List V}
theorem SqT.of {K : PySem.W.Frag} (h : H a = some (.tup xs)) : SqT K H a xs := .inl (.inl h)
theorem Inv.list (I : Inv X pins σ H s) (h : SqL X.K H a xs) : ∃ its : List Value, Vals xs its ∧ PlainL s.heap a its.toArray ∧ xs.length ≤ sizeLine := by
  rcases h with h | ⟨o, its, n, hk, hc, hd, hs, hz, r⟩
  · obtain ⟨z, its, n, r, e⟩ := h.ok I.hok
    exact ⟨its, r, ⟨_, n, e, rfl, rfl, rfl⟩, z⟩
  · refine ⟨its.toList, r, ⟨o, n, I.kIn a o hk, hc, hd, by simpa using hs⟩, ?_⟩
    have e := r.length
    simp only [Array.length_toList] at e
    lia
theorem Inv.tuple (I : Inv X pins σ H s) (h : SqT X.K H a xs) : ∃ its : List Value, Vals xs its ∧ IsTup s.heap a its.toArray ∧ xs.length ≤ sizeLine := by
  rcases h with h | ⟨o, its, n, hk, hc, hs, hz, r⟩
  · obtain ⟨z, its, r, p⟩ := h.ok I.hok
    exact ⟨its, r, p, z⟩
  · refine ⟨its.toList, r, ⟨o, I.kIn a o hk, hc, n, by simpa using hs⟩, ?_⟩
    have e := r.length
    simp only [Array.length_toList] at e
    lia
theorem Inv.list_inj (I : Inv X pins σ H s) (h : SqL X.K H a xs) (h' : SqL X.K H a ys) : xs = ys := by
  obtain ⟨its, r, ⟨o, n, e, _, _, d⟩, _⟩ := I.list h
  obtain ⟨its', r', ⟨o', n', e', _, _, d'⟩, _⟩ := I.list h'
  rw [e] at e'; cases e'
  rw [d] at d'
  injection d' with d1 _
  have : its = its' := by simpa using congrArg Array.toList d1
  subst this
  exact r.inj r'
theorem Inv.tuple_inj (I : Inv X pins σ H s) (h : SqT X.K H a xs) (h' : SqT X.K H a ys) : xs = ys := by
  obtain ⟨its, r, ⟨o, e, _, n, d⟩, _⟩ := I.tuple h
  obtain ⟨its', r', ⟨o', e', _, n', d'⟩, _⟩ := I.tuple h'
  rw [e] at e'; cases e'
  rw [d] at d'
  injection d' with d1 _
  have : its = its' := by simpa using congrArg Array.toList d1
  subst this
  exact r.inj r'
end

/-! ### another wish about exceptions -/
noncomputable abbrev Cx.wish (X : Cx) (E : Value → Shared → Prop) : Cx := { X with xe := E }
/-- no exception leaves -/
noncomputable abbrev Cx.nox (X : Cx) : Cx := X.wish fun _ _ => False
theorem Cx.Ok.wish {X : Cx} (ok : X.Ok) (E : Value → Shared → Prop) : (X.wish E).Ok :=
  ⟨ok.mod, ok.kind, ok.glob, ok.blt, ok.above, ok.inj, ok.has, ok.cab, ok.hd, ok.frames, ok.stk, ok.exf, ok.bs, ok.bsz, ok.noex, ok.exfs, ok.funs, ok.frf⟩
theorem Cx.Ok.unwish {X : Cx} {E : Value → Shared → Prop} (ok : (X.wish E).Ok) : X.Ok :=
  ⟨ok.mod, ok.kind, ok.glob, ok.blt, ok.above, ok.inj, ok.has, ok.cab, ok.hd, ok.frames, ok.stk, ok.exf, ok.bs, ok.bsz, ok.noex, ok.exfs, ok.funs, ok.frf⟩
section
variable {X : Cx} {pins : List (Addr × Obj)} {σ : St} {H : Hp} {s : Shared} {E : Value → Shared → Prop}
theorem Inv.wish (I : Inv X pins σ H s) (E : Value → Shared → Prop) : Inv (X.wish E) pins σ H s := ⟨I.ok.wish E, I.os, I.bare, I.base, I.loc, I.cell, I.free, I.freeC, I.pin, I.hok, I.len⟩
theorem Inv.unwish (I : Inv (X.wish E) pins σ H s) : Inv X pins σ H s := ⟨I.ok.unwish, I.os, I.bare, I.base, I.loc, I.cell, I.free, I.freeC, I.pin, I.hok, I.len⟩
end

/-! ### blocks and small statements -/
section
variable {X : Cx} {st : Stmt} {rest : List Stmt} {t u : TS} {e : Expr} {te : TE} {pos : Pos}
/-- in a def's body nothing is shown -/
theorem Inv.quiet {pins : List (Addr × Obj)} {σ : St} {H : Hp} {s : Shared} (I : Inv X pins σ H s) : interactive X.env = false := by simp [interactive, I.ok.kind]
/-- an expression whose value is dropped -/
noncomputable def tDrop (te : TE) : TS := fun D σ H => te σ H fun _ H1 => D.nx σ H1
theorem ps_expr (he : PE X e te) (hs : swapsWith e none pos.line X.env = pure false := by rfl) : PS X (.Expr e pos) (tDrop te) := by
  intro pins s σ H D I h
  exact wpAny_Expr_any (thn (he pins s σ H _ I h) fun v s1 ⟨x, H1, I1, r1, q1⟩ => ⟨σ, H1, I1, q1⟩) I.quiet hs
noncomputable def tRet (te : TE) : TS := fun D σ H => te σ H D.rt
theorem ps_ret (he : PE X e te) : PS X (.Return (some e) pos) (tRet te) := by
  intro pins s σ H D I h
  exact wpAny_Return_some (thn (he pins s σ H _ I h) fun v s1 ⟨x, H1, I1, r1, q1⟩ => ⟨x, σ, H1, I1, r1, q1⟩)
noncomputable def tIfS (c : TT) (t u : TS) : TS := fun D σ H => c σ H fun b H1 => if b = true then t D σ H1 else u D σ H1
theorem ps_if {c : Expr} {a b : List Stmt} {tc : TT} (hc : PT X c tc) (ha : PSs X a t) (hb : PSs X b u) : PS X (.If c a b pos) (tIfS tc t u) := by
  intro pins s σ H D I h
  refine wpAny_If (thn (hc pins s σ H _ I h) fun d s1 ⟨H1, I1, q1⟩ => ?_)
  cases d with
  | true => exact ha pins s1 σ H1 D I1 q1
  | false => exact hb pins s1 σ H1 D I1 q1
end

/-! ### targets -/
noncomputable abbrev TG := V → St → Hp → (St → Hp → Prop) → Prop
noncomputable def PG (X : Cx) (target : Expr) (t : TG) : Prop :=
  ∀ (pins : List (Addr × Obj)) (s : Shared) (σ : St) (H : Hp) (v : V) (u : Value) (Q : St → Hp → Prop), Inv X pins σ H s → RelV v u → t v σ H Q →
    wpAny (model X.prog X.w) X.A (assign target X.env u) (fun _ s' => ∃ σ' H', Inv X pins σ' H' s' ∧ Q σ' H') X.xe s
/-- o[i] = v, by values -/
noncomputable abbrev TSet := V → V → V → Hp → (Hp → Prop) → Prop
noncomputable def PSet (X : Cx) (t : TSet) : Prop :=
  ∀ (pins : List (Addr × Obj)) (s : Shared) (σ : St) (H : Hp) (o i v : V) (ov iv u : Value) (Q : Hp → Prop), Inv X pins σ H s → RelV o ov → RelV i iv → RelV v u → t o i v H Q →
    wpAny (model X.prog X.w) X.A (setItem ov iv u) (fun _ s' => ∃ H', Inv X pins σ H' s' ∧ Q H') X.xe s
section
variable {X : Cx} {pos : Pos}
noncomputable def gName (i : Nat) : TG := fun v σ H Q => Q (σ.set i (some v)) H
theorem pg_name {i : Nat} {x : Str} (hN : X.N.Nodup) (hi : X.N[i]? = some x) (hx : Loc X.env.scope x) (hf : X.fn x = true ∨ X.env.scope.names.lookup x = some .local := by first | exact .inl rfl | exact .inr rfl | assumption) : PG X (.Name x pos) (gName i) := by
  intro pins s σ H v u Q I r h
  exact wpAny_assign_Name (store_ok I hN hi hx r (fun s' I' => ⟨_, H, I', h⟩) hf)
/-- o[i] = .. -/
noncomputable def gSub (to ti : TE) (t : TSet) : TG := fun v σ H Q => to σ H fun o H1 => ti σ H1 fun i H2 => t o i v H2 fun H3 => Q σ H3
theorem pg_sub {o i : Expr} {to ti : TE} {t : TSet} (ho : PE X o to) (hi : PE X i ti) (hs : PSet X t)
    (ha : ∀ v, assign (.Subscript o i pos) X.env v = (do
      let ov ← holding [v] (eval o X.env)
      let iv ← holding [v, ov] (eval i X.env)
      standAt pos
      holding [v, ov, iv] (setItem ov iv v)
      release [v, ov, iv] []) := by intro _; rfl) : PG X (.Subscript o i pos) (gSub to ti t) := by
  intro pins s σ H v u Q I r h
  rw [ha]
  refine wpAny_bind (wpAny_holding (thn (ho pins s σ H _ I h) fun ov s1 ⟨x, H1, I1, r1, q1⟩ => ?_))
  refine wpAny_bind (wpAny_holding (thn (hi pins s1 σ H1 _ I1 q1) fun iv s2 ⟨y, H2, I2, r2, q2⟩ => ?_))
  refine wpAny_bind (wpAny_standAt (wpAny_bind (wpAny_holding (thn (hs pins s2 σ H2 x y v ov iv u _ I2 r1 r2 r q2) fun _ s3 ⟨H3, I3, q3⟩ => ?_))))
  exact wpAny_release ⟨σ, H3, I3, q3⟩
/-- target = value -/
noncomputable def tAsg (te : TE) (g : TG) : TS := fun D σ H => te σ H fun x H1 => g x σ H1 D.nx
theorem ps_asg {tg e : Expr} {te : TE} {g : TG} (he : PE X e te) (hg : PG X tg g) (hs : swapsWithSole [tg] e pos.line X.env = pure false := by rfl) (hw : swappedStores [tg] e X.env = pure none := by rfl)
    (h1 : (assignEach [tg] X.env).map (·.2) = [assign tg X.env] := by rfl) : PS X (.Assign [tg] e pos) (tAsg te g) := by
  intro pins s σ H D I h
  refine wpAny_Assign_stores (thn (he pins s σ H _ I h) fun v s1 ⟨x, H1, I1, r1, q1⟩ => ?_) hs hw
  rw [h1]
  exact thn (hg pins s1 σ H1 x v _ I1 r1 q1) fun _ s2 q => q
/-- name = value -/
theorem ps_set {i : Nat} {x : Str} {e : Expr} {te : TE} {pos' : Pos} (hN : X.N.Nodup) (hi : X.N[i]? = some x) (hx : Loc X.env.scope x) (he : PE X e te) (hs : swapsWith e (some (.Name x pos')) pos.line X.env = pure false := by rfl) (hf : X.fn x = true ∨ X.env.scope.names.lookup x = some .local := by first | exact .inl rfl | exact .inr rfl | assumption) :
    PS X (.Assign [.Name x pos'] e pos) (tAsg te (gName i)) := by
  intro pins s σ H D I h
  refine wpAny_Assign_Name (thn (he pins s σ H _ I h) fun v s1 ⟨y, H1, I1, r1, q1⟩ => ?_) hs
  exact store_ok I1 hN hi hx r1 (fun s2 I2 => ⟨_, H1, I2, q1⟩) hf
end

/-! ### while -/
section
variable {X : Cx} {pos : Pos}
/-- the invariant W with its measure -/
noncomputable def tWhile (c : TT) (tb : TS) : TS := fun D σ H => ∃ W : Nat → St → Hp → Prop, (∃ m, W m σ H) ∧ ∀ m σ H, W m σ H →
  c σ H fun b H1 => if b = true then ∃ N : St → Hp → Prop, (∀ σ' H', N σ' H' → ∃ m', m' < m ∧ W m' σ' H') ∧ tb { D with nx := N, ct := N, bk := D.nx } σ H1 else D.nx σ H1
theorem ps_while {c : Expr} {body : List Stmt} {tc : TT} {tb : TS} (hp : PassesOwn (model X.prog X.w) X.A X.env X.xe) (hc : PT X c tc) (hb : PSs X body tb) : PS X (.While c body [] pos) (tWhile tc tb) := by
  intro pins s σ H D I h
  obtain ⟨W, ⟨m0, w0⟩, turn⟩ := h
  refine wpAny_While (codeAny_whileLoop (fun n s' => ∃ σ' H', Inv X pins σ' H' s' ∧ W n σ' H') ?_ m0 ⟨σ, H, I, w0⟩)
  rintro n s1 ⟨σ1, H1, I1, w1⟩
  refine wpAny_passesOwn hp (thn (hc pins s1 σ1 H1 _ I1 (turn n σ1 H1 w1)) fun b s2 ⟨H2, I2, q2⟩ => ?_)
  cases b with
  | true =>
    obtain ⟨N, hN, q2⟩ := q2
    rw [if_pos rfl]
    refine wpAny_passesOwn hp (thn (hb pins s2 σ1 H2 _ I2 q2) fun f s3 q3 => ?_)
    cases f with
    | next =>
      obtain ⟨σ3, H3, I3, n3⟩ := q3
      obtain ⟨m', hm, w3⟩ := hN σ3 H3 n3
      exact ⟨m', hm, σ3, H3, I3, w3⟩
    | cont =>
      obtain ⟨σ3, H3, I3, n3⟩ := q3
      obtain ⟨m', hm, w3⟩ := hN σ3 H3 n3
      exact ⟨m', hm, σ3, H3, I3, w3⟩
    | brk => exact q3
    | ret v => exact q3
  | false =>
    rw [if_neg Bool.false_ne_true]
    exact wpAny_execs_nil ⟨σ1, H2, I2, q2⟩
end

/-! ### what a loop or a comprehension walks -/
/-- at turn i: it yields x (the heap may grow), or it stops -/
structure It where
  go : Nat → Hp → Prop
  yld : Nat → Hp → V → Hp → Prop
  stop : Nat → Hp → Prop
/-- the iterator's own objects may turn: they are not the frame's, not pinned, younger than the entry (or a comprehension's own) -/
noncomputable def FpOk (X : Cx) (pins : List (Addr × Obj)) (H : Hp) (b : Addr) : Prop :=
  H b = none ∧ b ≠ X.env.locals ∧ b ∉ X.fs ∧ (b ∈ X.ex ∨ X.s₀.heap.objs.size ≤ b) ∧ (∀ x c, X.env.cells.lookup x = some c → c ≠ b) ∧ ∀ p ∈ X.pn ++ pins, p.1 ≠ b
theorem Inv.fpOk {X : Cx} {pins : List (Addr × Obj)} {σ : St} {H H' : Hp} {s : Shared} {b : Addr} (I : Inv X pins σ H s) (hb : s.heap.objs.size ≤ b) (hn : H' b = none) : FpOk X pins H' b := by
  refine ⟨hn, Nat.ne_of_gt (Nat.lt_of_lt_of_le I.lt hb), I.nofs hb, .inr (Nat.le_trans I.sz hb), fun x c e z => ?_, fun p hp z => ?_⟩
  · obtain ⟨v, q⟩ := I.cell x c e
    exact absurd (Nat.lt_of_lt_of_le q.lt (by rw [z]; exact hb)) (Nat.lt_irrefl _)
  · exact absurd (Nat.lt_of_lt_of_le (Heap.lt_size (I.pin p hp).1) (by rw [z]; exact hb)) (Nat.lt_irrefl _)
structure Turn (P : Program) (w : World) (K : PySem.W.Frag) (tg : Expr) (J : It) (fp : List Addr) (it : Addr) (tn : Nat → Heap → Prop) : Prop where
  mem : it ∈ fp
  obj : ∀ i h, tn i h → ∀ b ∈ fp, ∃ o, h.get? b = some o ∧ ∀ v, o.data ≠ .cell v
  keep : ∀ i h h', tn i h → (∀ b ∈ fp, ∀ o, h.get? b = some o → h'.get? b = some o) → tn i h'
  item : ∀ (X : Cx), X.prog = P → X.w = w → X.K = K → X.calm = true → ∀ (i : Nat) (pins : List (Addr × Obj)) (s : Shared) (σ : St) (H : Hp) (E : Value → Shared → Prop), Inv X pins σ H s → (∀ b ∈ fp, FpOk X pins H b) → tn i s.heap → J.go i H →
    wpAny (model P w) X.A (pyNext (.ref it)) (fun r s1 => ∃ u, r = some u ∧
      wpAny (model P w) X.A (letOwnedTupleGo tg (.ref it) u) (fun _ s2 => ∃ x H', Inv X pins σ H' s2 ∧ RelV x u ∧ J.yld i H x H' ∧ tn (i + 1) s2.heap ∧ ∀ b ∈ fp, H' b = none) E s1) E s
  done : ∀ (X : Cx), X.prog = P → X.w = w → X.K = K → X.calm = true → ∀ (i : Nat) (pins : List (Addr × Obj)) (s : Shared) (σ : St) (H : Hp) (E : Value → Shared → Prop), Inv X pins σ H s → (∀ b ∈ fp, FpOk X pins H b) → tn i s.heap → J.stop i H →
    wpAny (model P w) X.A (pyNext (.ref it)) (fun r s1 => r = none ∧ Inv X pins σ H s1) E s
  self : ∀ (A : Around) (i : Nat) (s : Shared) (Q : Value → Shared → Prop) (E : Value → Shared → Prop), tn i s.heap → Q (.ref it) s → wpAny (model P w) A (pyIter (.ref it)) Q E s
noncomputable abbrev TI := St → Hp → (It → Hp → Prop) → Prop
/-- an iterator has come -/
noncomputable def PIE (X : Cx) (pins : List (Addr × Obj)) (σ : St) (tg : Expr) (R : It → Hp → Prop) (itv : Value) (s2 : Shared) : Prop :=
  ∃ (it : Addr) (fp : List Addr) (tn : Nat → Heap → Prop) (J : It) (H' : Hp), itv = .ref it ∧ Inv X pins σ H' s2 ∧ Turn X.prog X.w X.K tg J fp it tn ∧ tn 0 s2.heap ∧ (∀ b ∈ fp, FpOk X pins H' b) ∧ R J H'
noncomputable def PI (X : Cx) (tg iter : Expr) (wi : TI) : Prop :=
  ∀ (pins : List (Addr × Obj)) (s : Shared) (σ : St) (H : Hp) (R : It → Hp → Prop), Inv X pins σ H s → wi σ H R →
    wpAny (model X.prog X.w) X.A (eval iter X.env) (fun v s1 => wpAny (model X.prog X.w) X.A (pyIter v) (PIE X pins σ tg R) X.xe s1) X.xe s

/-- the step ahead of the store is nothing for an iterator that keeps no tuple -/
theorem go_of {M : Model} {A : Around} {E : Value → Shared → Prop} {s : Shared} {tg : Expr} {it : Addr} {u : Value} {o : Obj} {n : String} {vs : Array Value} {Q : Unit → Shared → Prop} (ho : s.heap.get? it = some o) (hc : o.cls = .type n) (hd : o.data = .fields vs)
    (hn : ["enumerate", "zip", "dict_itemiterator", "dict_reverseitemiterator", "odict_iterator", "itertools.zip_longest", "itertools.pairwise"].contains n = false) (hQ : Q () s) : wpAny M A (letOwnedTupleGo tg (.ref it) u) Q E s := by
  unfold letOwnedTupleGo
  cases tg <;> first
    | exact wpAny_pure hQ
    | (cases u <;> first
        | exact wpAny_pure hQ
        | (refine wpAny_bind (wpAny_load ho ?_)
           rw [hc, hd]
           show wpAny M A (if (["enumerate", "zip", "dict_itemiterator", "dict_reverseitemiterator", "odict_iterator", "itertools.zip_longest", "itertools.pairwise"].contains n && vs[0]? == some (rawInt _)) = true then _ else _) Q E s
           rw [if_neg (by intro h; rw [hn, Bool.false_and] at h; cases h)]
           exact wpAny_pure hQ))

/-- the list at a, as it stands at each turn (a loop may append to it) -/
noncomputable def Itl (K : PySem.W.Frag) (a : Addr) : It :=
  ⟨fun i H => ∃ xs x, SqL K H a xs ∧ xs[i]? = some x, fun i H x H' => H' = H ∧ ∀ xs, SqL K H a xs → xs[i]? = some x, fun i H => ∃ xs, SqL K H a xs ∧ xs.length ≤ i⟩
noncomputable def Itt (K : PySem.W.Frag) (a : Addr) : It :=
  ⟨fun i H => ∃ xs x, SqT K H a xs ∧ xs[i]? = some x, fun i H x H' => H' = H ∧ ∀ xs, SqT K H a xs → xs[i]? = some x, fun i H => ∃ xs, SqT K H a xs ∧ xs.length ≤ i⟩
/-- lo, lo + 1, .. (n of them) -/
noncomputable def Itr (lo : Int) (n : Nat) : It := ⟨fun i _ => i < n, fun i H x H' => H' = H ∧ x = .int (lo + i), fun i _ => n ≤ i⟩
theorem turn_list {P : Program} {w : World} {K : PySem.W.Frag} {tg : Expr} (a it : Addr) : Turn P w K tg (Itl K a) [it] it (fun i h => h.IsListIter it a i) where
  mem := by simp
  obj := fun i h st b hb => by
    have e : b = it := by simpa using hb
    subst e
    obtain ⟨o, e, c, d⟩ := st
    exact ⟨o, e, fun v z => by rw [d] at z; cases z⟩
  keep := fun i h h' st k => st.at fun o e => k it (by simp) o e
  item := by
    intro X hP hw hK hc i pins s σ H E I hf st hg
    subst hP hw hK
    obtain ⟨xs, x, hq, hx⟩ := hg
    obtain ⟨its, rv, p, hz⟩ := I.list hq
    obtain ⟨u, hu, ru⟩ := rv.get hx
    obtain ⟨f0, f1, f2, f3, f4, f5⟩ := hf it (by simp)
    refine wpAny_pyNext_list_item st p.isList (x := u) (by simpa using hu) fun h' st' sb => ?_
    have I1 : Inv X pins σ H { s with heap := h' } := I.turned (t' := s.toks) (fun b o hb e => (sb.2 b hb).trans e) f0 f1 f3 f4 f5
    obtain ⟨o, e, c, d⟩ := id st'
    exact ⟨u, rfl, go_of (s := { s with heap := h' }) e c d (by decide) ⟨x, H, I1, ru, ⟨rfl, fun ys hy => by rw [I.list_inj hy hq]; exact hx⟩, st', fun b hb => (hf b hb).1⟩⟩
  done := by
    intro X hP hw hK hc i pins s σ H E I hf st hg
    subst hP hw hK
    obtain ⟨xs, hq, hx⟩ := hg
    obtain ⟨its, rv, p, hz⟩ := I.list hq
    obtain ⟨f0, f1, f2, f3, f4, f5⟩ := hf it (by simp)
    have hl := rv.length
    exact wpAny_pyNext_list_end (I.ok.hd hc) st p.isList (by simp; lia) fun h' eb => ⟨rfl, I.turned (t' := s.toks) (fun b o hb e => eb b o hb e) f0 f1 f3 f4 f5⟩
  self := fun _ _ _ _ _ st h => wpAny_pyIter_listiter st h
theorem turn_tuple {P : Program} {w : World} {K : PySem.W.Frag} {tg : Expr} (a it : Addr) : Turn P w K tg (Itt K a) [it] it (fun i h => h.IsTupleIter it a i) where
  mem := by simp
  obj := fun i h st b hb => by
    have e : b = it := by simpa using hb
    subst e
    obtain ⟨o, e, c, d⟩ := st
    exact ⟨o, e, fun v z => by rw [d] at z; cases z⟩
  keep := fun i h h' st k => st.at fun o e => k it (by simp) o e
  item := by
    intro X hP hw hK hc i pins s σ H E I hf st hg
    subst hP hw hK
    obtain ⟨xs, x, hq, hx⟩ := hg
    obtain ⟨its, rv, p, hz⟩ := I.tuple hq
    obtain ⟨u, hu, ru⟩ := rv.get hx
    obtain ⟨f0, f1, f2, f3, f4, f5⟩ := hf it (by simp)
    refine wpAny_pyNext_tuple_item st (show s.heap.IsTuple a its.toArray from p) (x := u) (by simpa using hu) fun h' st' sb => ?_
    have I1 : Inv X pins σ H { s with heap := h' } := I.turned (t' := s.toks) (fun b o hb e => (sb.2 b hb).trans e) f0 f1 f3 f4 f5
    obtain ⟨o, e, c, d⟩ := id st'
    exact ⟨u, rfl, go_of (s := { s with heap := h' }) e c d (by decide) ⟨x, H, I1, ru, ⟨rfl, fun ys hy => by rw [I.tuple_inj hy hq]; exact hx⟩, st', fun b hb => (hf b hb).1⟩⟩
  done := by
    intro X hP hw hK hc i pins s σ H E I hf st hg
    subst hP hw hK
    obtain ⟨xs, hq, hx⟩ := hg
    obtain ⟨its, rv, p, hz⟩ := I.tuple hq
    obtain ⟨f0, f1, f2, f3, f4, f5⟩ := hf it (by simp)
    have hl := rv.length
    exact wpAny_pyNext_tuple_end (I.ok.hd hc) st (show s.heap.IsTuple a its.toArray from p) (by simp; lia) fun h' eb => ⟨rfl, I.turned (t' := s.toks) (fun b o hb e => eb b o hb e) f0 f1 f3 f4 f5⟩
  self := fun _ _ _ _ _ st h => wpAny_pyIter_tupleiter st h
theorem turn_range {P : Program} {w : World} {K : PySem.W.Frag} {tg : Expr} (it : Addr) (lo : Int) (n : Nat) : Turn P w K tg (Itr lo n) [it] it (fun i h => IsRangeIter h it (lo + (i : Nat) * 1) ((n : Int) - (i : Nat)) 1) where
  mem := by simp
  obj := fun i h st b hb => by
    have e : b = it := by simpa using hb
    subst e
    exact ⟨_, st, fun v z => by
      have z' : Data.fields _ = Data.cell v := z
      cases z'⟩
  keep := fun i h h' st k => k it (by simp) _ st
  item := by
    intro X hP hw hK hc i pins s σ H E I hf st hg
    subst hP hw hK
    obtain ⟨f0, f1, f2, f3, f4, f5⟩ := hf it (by simp)
    have W := Walks.range (prog := X.prog) (w := X.w) (I.ok.hd hc) it lo 1 n
    refine W.item i s _ _ hg st fun v h' tk hv st' kk => ?_
    obtain ⟨t, rfl⟩ := hv
    have I1 : Inv X pins σ H { s with heap := h', toks := tk } := I.turned (fun b o hb e => kk b o (by simpa using hb) e) f0 f1 f3 f4 f5
    refine ⟨_, rfl, go_of (s := { s with heap := h', toks := tk }) (n := "range_iterator") st' rfl rfl (by decide) ⟨.int (lo + i), H, I1, ⟨t, ?_⟩, ⟨rfl, rfl⟩, st', fun b hb => (hf b hb).1⟩⟩
    rw [Int.mul_one]
  done := by
    intro X hP hw hK hc i pins s σ H E I hf st hg
    subst hP hw hK
    obtain ⟨f0, f1, f2, f3, f4, f5⟩ := hf it (by simp)
    exact wpAny_pyNext_range_end (I.ok.hd hc) st (by have : n ≤ i := hg; lia) fun h' eb => ⟨rfl, I.turned (t' := s.toks) (fun b o hb e => eb b o hb e) f0 f1 f3 f4 f5⟩
  self := fun _ _ _ _ _ st h => wpAny_pyIter_rangeiter st h
end L2

namespace L2
open PySem PySem.Spec PyProof.Rows
section
variable {X : Cx} {tg : Expr}
noncomputable def iList (K : PySem.W.Frag) (tl : TE) : TI := fun σ H R => tl σ H fun x H1 => ∃ a, x = .ref a ∧ (∃ xs, SqL K H1 a xs) ∧ R (Itl K a) H1
noncomputable def iTup (K : PySem.W.Frag) (tl : TE) : TI := fun σ H R => tl σ H fun x H1 => ∃ a, x = .ref a ∧ (∃ xs, SqT K H1 a xs) ∧ R (Itt K a) H1
theorem pi_list {l : Expr} {tl : TE} (hl : PE X l tl) : PI X tg l (iList X.K tl) := by
  intro pins s σ H R I h
  refine thn (hl pins s σ H _ I h) fun v s1 ⟨x, H1, I1, r1, q1⟩ => ?_
  obtain ⟨a, e, ⟨xs, hq⟩, q⟩ := q1
  subst e
  cases r1
  obtain ⟨its, rv, p, hz⟩ := I1.list hq
  refine wpAny_pyIter_list p.isList ?_
  refine ⟨s1.heap.objs.size, [s1.heap.objs.size], _, _, H1, rfl, I1.kept (t' := s1.toks) fun b o e => Heap.get?_push_of_some _ e, turn_list a _, ⟨_, Heap.get?_push_size _ rfl, rfl, rfl⟩, fun b hb => ?_, q⟩
  have e : b = s1.heap.objs.size := by simpa using hb
  subst e
  exact I1.fpOk (Nat.le_refl _) (I1.hok.fresh (Nat.le_refl _))
theorem pi_tup {l : Expr} {tl : TE} (hl : PE X l tl) : PI X tg l (iTup X.K tl) := by
  intro pins s σ H R I h
  refine thn (hl pins s σ H _ I h) fun v s1 ⟨x, H1, I1, r1, q1⟩ => ?_
  obtain ⟨a, e, ⟨xs, hq⟩, q⟩ := q1
  subst e
  cases r1
  obtain ⟨its, rv, p, hz⟩ := I1.tuple hq
  refine wpAny_pyIter_tuple (show s1.heap.IsTuple a its.toArray from p) ?_
  refine ⟨s1.heap.objs.size, [s1.heap.objs.size], _, _, H1, rfl, I1.kept (t' := s1.toks) fun b o e => Heap.get?_push_of_some _ e, turn_tuple a _, ⟨_, Heap.get?_push_size _ rfl, rfl, rfl⟩, fun b hb => ?_, q⟩
  have e : b = s1.heap.objs.size := by simpa using hb
  subst e
  exact I1.fpOk (Nat.le_refl _) (I1.hok.fresh (Nat.le_refl _))
/-- a range object just made, walked -/
theorem range_it {pins : List (Addr × Obj)} {σ : St} {H : Hp} {s : Shared} {R : It → Hp → Prop} {E : Value → Shared → Prop} {lo hi : Int} {t u v : Tok} {tk : Nat} (I : Inv X pins σ H s) (h1 : -(2 ^ 62) ≤ lo) (h2 : lo < 2 ^ 62) (h3 : -(2 ^ 62) ≤ hi) (h4 : hi < 2 ^ 62)
    (q : R (Itr lo (hi - lo).toNat) H) : wpAny (model X.prog X.w) X.A (pyIter (.ref s.heap.objs.size)) (PIE X pins σ tg R) E { s with heap := s.heap.push { cls := .type "range", data := .fields #[.int lo t, .int hi u, .int 1 v] }, toks := tk } := by
  refine wpAny_pyIter_range (IsRange.new ..) (small_one h1 h2 h3 h4) ?_
  have I1 : Inv X pins σ H { s with heap := s.heap.push { cls := .type "range", data := .fields #[.int lo t, .int hi u, .int 1 v] }, toks := tk } := I.kept fun b o e => Heap.get?_push_of_some _ e
  refine ⟨(s.heap.push { cls := .type "range", data := .fields #[.int lo t, .int hi u, .int 1 v] }).objs.size, [(s.heap.push { cls := .type "range", data := .fields #[.int lo t, .int hi u, .int 1 v] }).objs.size], _, _, H, rfl,
    I1.kept (t' := tk) fun b o e => Heap.get?_push_of_some _ e, turn_range _ lo (hi - lo).toNat, ?_, fun b hb => ?_, q⟩
  · have e1 : lo + ((0 : Nat) : Int) * 1 = lo := by simp
    have e2 : (((hi - lo).toNat : Nat) : Int) - ((0 : Nat) : Int) = Builtin.Range.rangeSize lo hi 1 := by rw [rangeSize_one]; split <;> lia
    show IsRangeIter _ _ (lo + ((0 : Nat) : Int) * 1) ((((hi - lo).toNat : Nat) : Int) - ((0 : Nat) : Int)) 1
    rw [e1, e2]
    exact Heap.get?_push_size _ rfl
  · have e : b = (s.heap.push { cls := .type "range", data := .fields #[.int lo t, .int hi u, .int 1 v] }).objs.size := by simpa using hb
    subst e
    exact I1.fpOk (Nat.le_refl _) (I1.hok.fresh (Nat.le_refl _))
noncomputable def iRng1 (ta : TA) : TI := fun σ H R => ta σ H fun vs H1 => ∃ j : Int, vs = [.int j] ∧ -(2 ^ 62) ≤ j ∧ j < 2 ^ 62 ∧ R (Itr 0 j.toNat) H1
noncomputable def iRng2 (ta : TA) : TI := fun σ H R => ta σ H fun vs H1 => ∃ i j : Int, vs = [.int i, .int j] ∧ (-(2 ^ 62) ≤ i ∧ i < 2 ^ 62 ∧ -(2 ^ 62) ≤ j ∧ j < 2 ^ 62) ∧ R (Itr i (j - i).toNat) H1
theorem pi_range1 {a : Expr} {ta : TA} {p pos : Pos} (hg : Gl X "range") (hm : X.mg "range" = none) (ha : PA X [a] ta) (hs : starEach [a] X.env = [(false, eval a X.env)] := by rfl) : PI X tg (.Call (.Name "range" p) [a] [] pos) (iRng1 ta) := by
  intro pins s σ H R I h
  refine Call_ (ld_blt I hg hm boot_range (PyProof.Rows.callWith_type1 (thn (ha pos pins s σ H _ I h) fun us s1 ⟨vs, H1, I1, r1, q1⟩ => ?_) hs rfl))
  obtain ⟨j, e, q1, q2, q⟩ := q1
  subst e
  cases r1 with
  | cons r rr =>
    cases rr
    obtain ⟨t, rfl⟩ := r
    exact call_range_1 (range_it I1 (by lia) (by lia) q1 q2 (by simpa using q))
theorem pi_range2 {a b : Expr} {ta : TA} {p pos : Pos} (hg : Gl X "range") (hm : X.mg "range" = none) (ha : PA X [a, b] ta) (hs : starEach [a, b] X.env = [(false, eval a X.env), (false, eval b X.env)] := by rfl) (hs2 : starEach [b] X.env = [(false, eval b X.env)] := by rfl) :
    PI X tg (.Call (.Name "range" p) [a, b] [] pos) (iRng2 ta) := by
  intro pins s σ H R I h
  refine Call_ (ld_blt I hg hm boot_range (PyProof.Rows.callWith_type1 (thn (ha pos pins s σ H _ I h) fun us s1 ⟨vs, H1, I1, r1, q1⟩ => ?_) (by rw [hs, hs2]) (by rw [hs2]; rfl)))
  obtain ⟨i, j, e, ⟨q1, q2, q3, q4⟩, q⟩ := q1
  subst e
  cases r1 with
  | cons r rr =>
    cases rr with
    | cons r' rr =>
      cases rr
      obtain ⟨t, rfl⟩ := r
      obtain ⟨t', rfl⟩ := r'
      exact call_range_2 (range_it I1 q1 q2 q3 q4 q)

/-! ### for -/
/-- W: the invariant by the turn and a measure; N: what the body is to reach -/
noncomputable def tFor (wi : TI) (g : TG) (tb : TS) : TS := fun D σ H => wi σ H fun J H1 => ∃ W : Nat → Nat → St → Hp → Prop, (∃ m, W 0 m σ H1) ∧ ∀ i m σ H, W i m σ H →
  (J.stop i H ∧ D.nx σ H) ∨ (J.go i H ∧ ∃ N : St → Hp → Prop, (∀ σ' H', N σ' H' → ∃ m', m' < m ∧ W (i + 1) m' σ' H') ∧ ∀ x H', J.yld i H x H' → g x σ H' fun σ2 H2 => tb { D with nx := N, ct := N, bk := D.nx } σ2 H2)
/-- the records at fp as they stand -/
noncomputable def pinsAt (fp : List Addr) (h : Heap) : List (Addr × Obj) := fp.filterMap fun b => (h.get? b).map fun o => (b, o)
theorem mem_pinsAt {fp : List Addr} {h : Heap} {b : Addr} {o : Obj} (hb : b ∈ fp) (e : h.get? b = some o) : (b, o) ∈ pinsAt fp h := List.mem_filterMap.mpr ⟨b, hb, by rw [e]; rfl⟩
theorem of_pinsAt {fp : List Addr} {h : Heap} {p : Addr × Obj} (hp : p ∈ pinsAt fp h) : p.1 ∈ fp ∧ h.get? p.1 = some p.2 := by
  obtain ⟨b, hb, e⟩ := List.mem_filterMap.mp hp
  cases q : h.get? b with
  | none => rw [q] at e; cases e
  | some o =>
    rw [q] at e
    have e' : (b, o) = p := Option.some.inj e
    subst e'
    exact ⟨hb, q⟩
theorem Inv.pinned {pins : List (Addr × Obj)} {σ : St} {H : Hp} {s : Shared} {fp : List Addr} (I : Inv X pins σ H s) (hf : ∀ b ∈ fp, FpOk X pins H b) (ho : ∀ b ∈ fp, ∃ o, s.heap.get? b = some o ∧ ∀ v, o.data ≠ .cell v) : Inv X (pins ++ pinsAt fp s.heap) σ H s :=
  I.pins_of fun p hp => (List.mem_append.mp hp).elim (fun z => I.pin p (List.mem_append_right _ z)) fun z => by
    obtain ⟨hb, e⟩ := of_pinsAt z
    obtain ⟨f0, f1, f2, _⟩ := hf p.1 hb
    obtain ⟨o, e', d⟩ := ho p.1 hb
    rw [e] at e'; cases e'
    exact ⟨e, f0, f1, f2, d⟩
theorem Inv.unpinned {pins pl : List (Addr × Obj)} {σ : St} {H : Hp} {s : Shared} (I : Inv X (pins ++ pl) σ H s) : Inv X pins σ H s := I.pins_of fun p hp => I.pin p (List.mem_append_right _ (List.mem_append_left _ hp))
theorem ps_for {iter : Expr} {body : List Stmt} {wi : TI} {g : TG} {tb : TS} {pos : Pos} (hp : PassesOwn (model X.prog X.w) X.A X.env X.xe) (hc : X.calm = true) (hi : PI X tg iter wi) (hg : PG X tg g) (hb : PSs X body tb)
    (hs : ∀ x, foldedSetIterable iter X.env x = pure x := by intro _; rfl) : PS X (.For tg iter body [] pos) (tFor wi g tb) := by
  intro pins s σ H D I h
  refine wpAny_For (thn (hi pins s σ H _ I h) fun v s1 h1 => thn h1 fun itv s2 h2 => ?_) hs
  obtain ⟨it, fp, tn, J, H2, e, I2, T, st2, f2, W, ⟨m0, w0⟩, turn⟩ := h2
  subst e
  -- what stays true of the iterator's objects through the loop
  have stat : ∀ {H' : Hp}, (∀ b ∈ fp, H' b = none) → ∀ b ∈ fp, FpOk X pins H' b := fun hn b hb => ⟨hn b hb, (f2 b hb).2⟩
  refine codeAny_forLoop_any (fun n s' => ∃ i σ' H', Inv X pins σ' H' s' ∧ tn i s'.heap ∧ (∀ b ∈ fp, H' b = none) ∧ W i n σ' H') ?_ m0 ⟨0, σ, H2, I2, st2, fun b hb => (f2 b hb).1, w0⟩
  rintro n s3 ⟨i, σ3, H3, I3, st3, fr3, w3⟩
  rcases turn i n σ3 H3 w3 with ⟨stop, qn⟩ | ⟨go, N, hN, step⟩
  · refine wpAny_passesOwn hp (thn (T.done X rfl rfl rfl hc i pins s3 σ3 H3 X.xe I3 (stat fr3) st3 stop) fun r s4 ⟨hr, I4⟩ => ?_)
    subst hr
    exact wpAny_execs_nil ⟨σ3, H3, I4, qn⟩
  · refine wpAny_passesOwn hp (thn (T.item X rfl rfl rfl hc i pins s3 σ3 H3 X.xe I3 (stat fr3) st3 go) fun r s4 ⟨u, hr, h4⟩ => ?_)
    subst hr
    refine wpAny_passesOwn hp (thn h4 fun _ s5 ⟨x, H5, I5, r5, y5, st5, fr5⟩ => ?_)
    have I5' := I5.pinned (stat fr5) (T.obj _ _ st5)
    refine wpAny_passesOwn hp (thn (hg _ s5 σ3 H5 x u _ I5' r5 (step x H5 y5)) fun _ s6 ⟨σ6, H6, I6, q6⟩ => ?_)
    refine wpAny_passesOwn hp (thn (hb _ s6 σ6 H6 _ I6 q6) fun f s7 q7 => ?_)
    have again : ∀ {σ7 : St} {H7 : Hp}, Inv X (pins ++ pinsAt fp s5.heap) σ7 H7 s7 → N σ7 H7 → ∃ m, m < n ∧ ∃ i σ' H', Inv X pins σ' H' s7 ∧ tn i s7.heap ∧ (∀ b ∈ fp, H' b = none) ∧ W i m σ' H' := fun {σ7 H7} I7 n7 => by
      obtain ⟨m', hm, w7⟩ := hN σ7 H7 n7
      refine ⟨m', hm, i + 1, σ7, H7, I7.unpinned, T.keep _ _ _ st5 fun b hb o e => (I7.pin (b, o) (List.mem_append_right _ (List.mem_append_right _ (mem_pinsAt hb e)))).1, fun b hb => ?_, w7⟩
      obtain ⟨o, e, d⟩ := T.obj _ _ st5 b hb
      exact (I7.pin (b, o) (List.mem_append_right _ (List.mem_append_right _ (mem_pinsAt hb e)))).2.1
    cases f with
    | next => obtain ⟨σ7, H7, I7, n7⟩ := q7; exact again I7 n7
    | cont => obtain ⟨σ7, H7, I7, n7⟩ := q7; exact again I7 n7
    | brk => obtain ⟨σ7, H7, I7, q7⟩ := q7; exact ⟨σ7, H7, I7.unpinned, q7⟩
    | ret v => obtain ⟨x7, σ7, H7, I7, r7, q7⟩ := q7; exact ⟨x7, σ7, H7, I7.unpinned, r7, q7⟩
end

/-! ### the forms one uses -/
end L2

namespace L2
open PySem PySem.Spec PyProof.Rows

noncomputable abbrev R2 := V → V → Hp → VK → Prop
/-- a two-place operation on values: f is binaryOp op, inplaceOp op or compareOp op -/
noncomputable def OpR (X : Cx) (f : Value → Value → Sem Value) (r : R2) : Prop :=
  ∀ (pins : List (Addr × Obj)) (s : Shared) (σ : St) (H : Hp) (x y : V) (v u : Value) (Q : VK), Inv X pins σ H s → RelV x v → RelV y u → r x y H Q →
    wpAny (model X.prog X.w) X.A (f v u) (EP X pins σ Q) X.xe s
/-- a call of a value that is known (a builtin, a type) with values -/
noncomputable def CallR (X : Cx) (f : Value) (r : List V → Hp → VK → Prop) : Prop :=
  ∀ (pins : List (Addr × Obj)) (s : Shared) (σ : St) (H : Hp) (xs : List V) (us : List Value) (Q : VK), Inv X pins σ H s → Vals xs us → r xs H Q →
    wpAny (model X.prog X.w) X.A (call f us) (EP X pins σ Q) X.xe s

noncomputable def tOp (r : R2) (ta tb : TE) : TE := fun σ H Q => ta σ H fun x H1 => tb σ H1 fun y H2 => r x y H2 Q
/-- ints in, under C, and a value out -/
noncomputable def rI (C : Int → Int → Prop) (g : Int → Int → V) : R2 := fun x y H Q => ∃ i j, x = .int i ∧ y = .int j ∧ C i j ∧ Q (g i j) H
noncomputable def rI0 (g : Int → Int → V) : R2 := fun x y H Q => ∃ i j, x = .int i ∧ y = .int j ∧ Q (g i j) H

section
variable {X : Cx} {a b c : Expr} {ta tb tc : TE} {pos : Pos}

theorem binT (ha : PE X a ta) (hb : PE X b tb) {pins : List (Addr × Obj)} {s : Shared} {σ : St} {H : Hp} {R : V → V → Hp → Prop} (I : Inv X pins σ H s)
    (h : ta σ H fun x H1 => tb σ H1 fun y H2 => R x y H2) {Q : Value → Shared → Prop} {f : Value → Value → Sem Value}
    (hf : ∀ v u s2 x y H2, Inv X pins σ H2 s2 → RelV x v → RelV y u → R x y H2 → wpAny (model X.prog X.w) X.A (f v u) Q X.xe s2) :
    wpAny (model X.prog X.w) X.A (eval a X.env) (fun v s₁ => wpAny (model X.prog X.w) X.A (eval b X.env) (fun u s₂ => wpAny (model X.prog X.w) X.A (f v u) Q X.xe s₂) X.xe s₁) X.xe s := by
  refine thn (ha pins s σ H _ I h) fun v s1 ⟨x, H1, I1, r1, q1⟩ => ?_
  refine thn (hb pins s1 σ H1 _ I1 q1) fun u s2 ⟨y, H2, I2, r2, q2⟩ => ?_
  exact hf v u s2 x y H2 I2 r1 r2 q2

theorem pe_op {op : Operator} {r : R2} (ho : OpR X (binaryOp op) r) (ha : PE X a ta) (hb : PE X b tb) : PE X (.BinOp a op b pos) (tOp r ta tb) := by
  intro pins s σ H Q I h
  exact wpAny_BinOp (binT ha hb I h fun v u s2 x y H2 I2 rx ry q => ho pins s2 σ H2 x y v u Q I2 rx ry q)

/-! ### ints -/
theorem opI {f : Value → Value → Sem Value} {C : Int → Int → Prop} {g : Int → Int → Int}
    (rule : ∀ (i j : Int) (t u : Tok) (s : Shared) (Q : Value → Shared → Prop) (E : Value → Shared → Prop), C i j → Q (.int (g i j) s.toks) { s with toks := s.toks + 1 } → wpAny (model X.prog X.w) X.A (f (.int i t) (.int j u)) Q E s) :
    OpR X f (rI C fun i j => .int (g i j)) := by
  intro pins s σ H x y v u Q I rx ry h
  obtain ⟨i, j, rfl, rfl, hc, q⟩ := h
  obtain ⟨t, rfl⟩ := rx
  obtain ⟨t', rfl⟩ := ry
  exact rule i j t t' s _ _ hc ⟨.int (g i j), H, I.tok _, ⟨_, rfl⟩, q⟩
theorem opI0 {f : Value → Value → Sem Value} {g : Int → Int → Int}
    (rule : ∀ (i j : Int) (t u : Tok) (s : Shared) (Q : Value → Shared → Prop) (E : Value → Shared → Prop), Q (.int (g i j) s.toks) { s with toks := s.toks + 1 } → wpAny (model X.prog X.w) X.A (f (.int i t) (.int j u)) Q E s) :
    OpR X f (rI0 fun i j => .int (g i j)) := by
  intro pins s σ H x y v u Q I rx ry h
  obtain ⟨i, j, rfl, rfl, q⟩ := h
  obtain ⟨t, rfl⟩ := rx
  obtain ⟨t', rfl⟩ := ry
  exact rule i j t t' s _ _ ⟨.int (g i j), H, I.tok _, ⟨_, rfl⟩, q⟩
theorem opB0 {f : Value → Value → Sem Value} {g : Int → Int → Bool}
    (rule : ∀ (i j : Int) (t u : Tok) (s : Shared) (Q : Value → Shared → Prop) (E : Value → Shared → Prop), Q (.bool (g i j)) s → wpAny (model X.prog X.w) X.A (f (.int i t) (.int j u)) Q E s) :
    OpR X f (rI0 fun i j => .bl (g i j)) := by
  intro pins s σ H x y v u Q I rx ry h
  obtain ⟨i, j, rfl, rfl, q⟩ := h
  obtain ⟨t, rfl⟩ := rx
  obtain ⟨t', rfl⟩ := ry
  exact rule i j t t' s _ _ ⟨.bl (g i j), H, I, rfl, q⟩

noncomputable def CDiv (i j : Int) : Prop := 0 < j ∧ j < 1073741824
noncomputable def CMul (i j : Int) : Prop := (-(2 ^ 64) < i ∧ i < 2 ^ 64) ∨ (-(2 ^ 64) < j ∧ j < 2 ^ 64)
theorem CMul.ok {i j : Int} (h : CMul i j) : IntMulOk i j := by
  rcases h with ⟨h1, h2⟩ | ⟨h1, h2⟩
  · exact .of_left (intBits_le_64 h1 h2)
  · exact .of_right (intBits_le_64 h1 h2)

theorem op_add : OpR X (binaryOp .Add) (rI0 fun i j => .int (i + j)) := opI0 fun _ _ _ _ _ _ _ q => add_int q
theorem op_sub : OpR X (binaryOp .Sub) (rI0 fun i j => .int (i - j)) := opI0 fun _ _ _ _ _ _ _ q => sub_int q
theorem op_mul : OpR X (binaryOp .Mult) (rI CMul fun i j => .int (i * j)) := opI fun _ _ _ _ _ _ _ hc q => mul_int q hc.ok
/-- // by a positive divisor -/
theorem op_fdiv : OpR X (binaryOp .FloorDiv) (rI CDiv fun i j => .int (i / j)) := opI fun i j _ _ _ _ _ hc q => by
  have h1 : (0 : Int) < j := hc.1
  have h2 : j < 1073741824 := hc.2
  exact floordiv_int (by lia) (by rw [Int.fdiv_eq_ediv_of_nonneg i (by lia)]; exact q) (.inl (PyProof.noPylong_small (by lia)))
/-- % by a positive divisor of any size -/
theorem op_mod : OpR X (binaryOp .Mod) (rI (fun _ j => 0 < j) fun i j => .int (i % j)) := opI fun i j _ _ _ _ _ hc q => by
  have h1 : (0 : Int) < j := hc
  exact mod_int' (by lia) (by rw [Int.fmod_eq_emod_of_nonneg i (by lia)]; exact q)



/-! ### bools among ints: n += (a < b) -/
end

/-! ### comparisons -/
/-- the scalars that == tells apart as data does -/
noncomputable def scal : V → V → Bool
  | .non, .non => true | .non, .int _ => true | .int _, .non => true | .non, .bl _ => true | .bl _, .non => true | .non, .str _ => true | .str _, .non => true
  | .int _, .int _ => true | .bl _, .bl _ => true | .str _, .str _ => true | .byt _, .byt _ => true
  | .int _, .str _ => true | .str _, .int _ => true | .bl _, .str _ => true | .str _, .bl _ => true
  | _, _ => false
noncomputable def rEq : R2 := fun x y H Q => scal x y = true ∧ Q (.bl (decide (x = y))) H
noncomputable def rNe : R2 := fun x y H Q => scal x y = true ∧ Q (.bl (!decide (x = y))) H

theorem dec_int {i j : Int} : decide (V.int i = V.int j) = (i == j) := by
  rw [Bool.eq_iff_iff]
  simp
theorem dec_bl {i j : Bool} : decide (V.bl i = V.bl j) = (i == j) := by
  rw [Bool.eq_iff_iff]
  simp
theorem dec_str {i j : Str} : decide (V.str i = V.str j) = (i == j) := by
  rw [Bool.eq_iff_iff]
  simp
theorem dec_byt {i j : Array UInt8} : decide (V.byt i = V.byt j) = (i.toList == j.toList) := by
  rw [Bool.eq_iff_iff]
  cases i
  cases j
  simp

section
variable {X : Cx} {a b c : Expr} {ta tb tc : TE} {pos : Pos}
theorem fin_bl {pins : List (Addr × Obj)} {σ : St} {H : Hp} {s : Shared} {Q : VK} {k k' : Bool} (I : Inv X pins σ H s) (q : Q (.bl k) H) (e : k = k') : EP X pins σ Q (.bool k') s := by
  subst e
  exact ⟨.bl k, H, I, rfl, q⟩
theorem op_eq : OpR X (compareOp .Eq) rEq := by
  intro pins s σ H x y v u Q I rx ry h
  obtain ⟨hs, q⟩ := h
  cases x with
  | non =>
    cases rx
    cases y with
    | non => cases ry; exact PySem.EqNone.eq_none_none (fin_bl I q (by simp))
    | bl j => cases ry; exact PySem.EqNone.eq_none_bool (fin_bl I q (by simp))
    | int j => obtain ⟨t', rfl⟩ := ry; exact PySem.EqNone.eq_none_int (fin_bl I q (by simp))
    | str j => obtain ⟨t', rfl⟩ := ry; exact PySem.EqNone.eq_none_str (fin_bl I q (by simp))
    | _ => exact absurd (show false = true from hs) Bool.false_ne_true
  | bl i =>
    cases rx
    cases y with
    | non => cases ry; exact PySem.EqNone.eq_bool_none (fin_bl I q (by simp))
    | bl j => cases ry; exact eq_bool (fin_bl I q dec_bl)
    | str j => obtain ⟨t', rfl⟩ := ry; exact PySem.EqMixed.eq_bool_str (fin_bl I q (by simp))
    | _ => exact absurd (show false = true from hs) Bool.false_ne_true
  | int i =>
    obtain ⟨t, rfl⟩ := rx
    cases y with
    | non => cases ry; exact PySem.EqNone.eq_int_none (fin_bl I q (by simp))
    | int j => obtain ⟨t', rfl⟩ := ry; exact eq_int (fin_bl I q dec_int)
    | str j => obtain ⟨t', rfl⟩ := ry; exact PySem.EqMixed.eq_int_str (fin_bl I q (by simp))
    | _ => exact absurd (show false = true from hs) Bool.false_ne_true
  | str i =>
    obtain ⟨t, rfl⟩ := rx
    cases y with
    | non => cases ry; exact PySem.EqNone.eq_str_none (fin_bl I q (by simp))
    | bl j => cases ry; exact PySem.EqMixed.eq_str_bool (fin_bl I q (by simp))
    | int j => obtain ⟨t', rfl⟩ := ry; exact PySem.EqMixed.eq_str_int (fin_bl I q (by simp))
    | str j => obtain ⟨t', rfl⟩ := ry; exact eq_str (fin_bl I q dec_str)
    | _ => exact absurd (show false = true from hs) Bool.false_ne_true
  | byt i =>
    obtain ⟨t, rfl⟩ := rx
    cases y with
    | byt j => obtain ⟨t', rfl⟩ := ry; exact PySem.W.eq_bytes (fin_bl I q dec_byt)
    | _ => exact absurd (show false = true from hs) Bool.false_ne_true
  | _ => cases y <;> exact absurd (show false = true from hs) Bool.false_ne_true
theorem op_ne : OpR X (compareOp .NotEq) rNe := by
  intro pins s σ H x y v u Q I rx ry h
  obtain ⟨hs, q⟩ := h
  cases x with
  | non =>
    cases rx
    cases y with
    | non => cases ry; exact PySem.EqNone.ne_none_none (fin_bl I q (by simp))
    | bl j => cases ry; exact PySem.EqNone.ne_none_bool (fin_bl I q (by simp))
    | int j => obtain ⟨t', rfl⟩ := ry; exact PySem.EqNone.ne_none_int (fin_bl I q (by simp))
    | str j => obtain ⟨t', rfl⟩ := ry; exact PySem.EqNone.ne_none_str (fin_bl I q (by simp))
    | _ => exact absurd (show false = true from hs) Bool.false_ne_true
  | bl i =>
    cases rx
    cases y with
    | non => cases ry; exact PySem.EqNone.ne_bool_none (fin_bl I q (by simp))
    | bl j => cases ry; exact ne_bool (fin_bl I q (congrArg not dec_bl))
    | str j => obtain ⟨t', rfl⟩ := ry; exact PySem.EqMixed.ne_bool_str (fin_bl I q (by simp))
    | _ => exact absurd (show false = true from hs) Bool.false_ne_true
  | int i =>
    obtain ⟨t, rfl⟩ := rx
    cases y with
    | non => cases ry; exact PySem.EqNone.ne_int_none (fin_bl I q (by simp))
    | int j => obtain ⟨t', rfl⟩ := ry; exact ne_int (fin_bl I q (congrArg not dec_int))
    | str j => obtain ⟨t', rfl⟩ := ry; exact PySem.EqMixed.ne_int_str (fin_bl I q (by simp))
    | _ => exact absurd (show false = true from hs) Bool.false_ne_true
  | str i =>
    obtain ⟨t, rfl⟩ := rx
    cases y with
    | non => cases ry; exact PySem.EqNone.ne_str_none (fin_bl I q (by simp))
    | bl j => cases ry; exact PySem.EqMixed.ne_str_bool (fin_bl I q (by simp))
    | int j => obtain ⟨t', rfl⟩ := ry; exact PySem.EqMixed.ne_str_int (fin_bl I q (by simp))
    | str j => obtain ⟨t', rfl⟩ := ry; exact ne_str (fin_bl I q (congrArg not dec_str))
    | _ => exact absurd (show false = true from hs) Bool.false_ne_true
  | byt i =>
    obtain ⟨t, rfl⟩ := rx
    cases y with
    | byt j => obtain ⟨t', rfl⟩ := ry; exact PySem.W.ne_bytes (fin_bl I q (congrArg not dec_byt))
    | _ => exact absurd (show false = true from hs) Bool.false_ne_true
  | _ => cases y <;> exact absurd (show false = true from hs) Bool.false_ne_true

theorem op_lt : OpR X (compareOp .Lt) (rI0 fun i j => .bl (decide (i < j))) := opB0 fun _ _ _ _ _ _ _ q => lt_int q
theorem op_le : OpR X (compareOp .LtE) (rI0 fun i j => .bl (decide (i ≤ j))) := opB0 fun _ _ _ _ _ _ _ q => le_int q
theorem op_gt : OpR X (compareOp .Gt) (rI0 fun i j => .bl (decide (j < i))) := opB0 fun _ _ _ _ _ _ _ q => gt_int q

theorem op_notN : OpR X (compareOp .IsNot) (fun x y H Q => y = .non ∧ Q (.bl (!decide (x = .non))) H) := by
  intro pins s σ H x y v u Q I rx ry h
  obtain ⟨rfl, q⟩ := h
  cases ry
  refine isnot_none_gen (fin_bl I q ?_)
  cases x <;> first
    | (cases rx; rfl)
    | (obtain ⟨t, rfl⟩ := rx; rfl)



theorem nomark (b : Expr) {op : CmpOp} (h : op ≠ .In := by decide) (h2 : op ≠ .NotIn := by decide) : behindInMarks op b = false := by
  have e1 : (op == CmpOp.In) = false := by cases op <;> first | rfl | exact absurd rfl h
  have e2 : (op == CmpOp.NotIn) = false := by cases op <;> first | rfl | exact absurd rfl h2
  cases b <;> simp [behindInMarks, e1, e2]
/-- a comparison as a value; hm: nomark b, or (for in, not in) by with_unfolding_all rfl -/
theorem pe_cmpR {op : CmpOp} {r : R2} (ho : OpR X (compareOp op) r) (ha : PE X a ta) (hb : PE X b tb) (hm : behindInMarks op b = false) : PE X (.Compare a [op] [b] pos) (tOp r ta tb) := by
  intro pins s σ H Q I h
  exact wpAny_Compare1 (binT ha hb I h fun v u s2 x y H2 I2 rx ry q => ho pins s2 σ H2 x y v u Q I2 rx ry q) hm
/-- a reading of a value as a test -/
noncomputable def tTest (t : TE) : TT := fun σ H Q => t σ H fun x H' => ∃ k, x = .bl k ∧ Q k H'
theorem pt_cmpR {op : CmpOp} {r : R2} (ho : OpR X (compareOp op) r) (ha : PE X a ta) (hb : PE X b tb) (hm : behindInMarks op b = false) : PT X (.Compare a [op] [b] pos) (tTest (tOp r ta tb)) := by
  intro pins s σ H Q I h
  refine wpAny_isTrue_Compare1 (thn (ha pins s σ H _ I h) fun v s1 ⟨x, H1, I1, r1, q1⟩ => thn (hb pins s1 σ H1 _ I1 q1) fun u s2 ⟨y, H2, I2, r2, q2⟩ =>
    thn (ho pins s2 σ H2 x y v u _ I2 r1 r2 q2) fun c s3 ⟨z, H3, I3, r3, k, e, q3⟩ => ?_) hm
  subst e
  cases r3
  exact wpAny_truthy_bool ⟨H3, I3, q3⟩
/-- a op1 b op2 c -/
noncomputable def tChain (r r' : R2) (ta tb tc : TE) : TE := fun σ H Q => ta σ H fun x H1 => tb σ H1 fun y H2 => r x y H2 fun z H3 => ∃ k, z = .bl k ∧
  (if k = true then tc σ H3 fun w' H4 => r' y w' H4 Q else Q (.bl false) H3)
theorem pe_chain {op op' : CmpOp} {r r' : R2} (ho : OpR X (compareOp op) r) (ho' : OpR X (compareOp op') r') (ha : PE X a ta) (hb : PE X b tb) (hc : PE X c tc)
    (hm : lastMarks [op, op'] [b, c] = false := by with_unfolding_all rfl) : PE X (.Compare a [op, op'] [b, c] pos) (tChain r r' ta tb tc) := by
  intro pins s σ H Q I h
  refine Compare_chain (thn (ha pins s σ H _ I h) fun v s1 ⟨x, H1, I1, r1, q1⟩ => chain_link (thn (hb pins s1 σ H1 _ I1 q1) fun u s2 ⟨y, H2, I2, r2, q2⟩ =>
    thn (ho pins s2 σ H2 x y v u _ I2 r1 r2 q2) fun d s3 ⟨z, H3, I3, r3, k, e, q3⟩ => ?_)) hm
  subst e
  cases r3
  refine wpAny_truthy_bool ?_
  cases k with
  | false => exact ite_ff ⟨.bl false, H3, I3, rfl, q3⟩
  | true => exact ite_tt (chain_last (thn (hc pins s3 σ H3 _ I3 q3) fun w' s4 ⟨z', H4, I4, r4, q4⟩ => ho' pins s4 σ H4 y z' u w' Q I4 r2 r4 q4))
theorem pt_chain {op op' : CmpOp} {r r' : R2} (ho : OpR X (compareOp op) r) (ho' : OpR X (compareOp op') r') (ha : PE X a ta) (hb : PE X b tb) (hc : PE X c tc)
    (hm : lastMarks [op, op'] [b, c] = false := by with_unfolding_all rfl) : PT X (.Compare a [op, op'] [b, c] pos) (tTest (tChain r r' ta tb tc)) := by
  intro pins s σ H Q I h
  refine isTrue_chain (thn (ha pins s σ H _ I h) fun v s1 ⟨x, H1, I1, r1, q1⟩ => test_link (thn (hb pins s1 σ H1 _ I1 q1) fun u s2 ⟨y, H2, I2, r2, q2⟩ =>
    thn (ho pins s2 σ H2 x y v u _ I2 r1 r2 q2) fun d s3 ⟨z, H3, I3, r3, k, e, q3⟩ => ?_)) hm
  subst e
  cases r3
  refine wpAny_truthy_bool ?_
  cases k with
  | false =>
    obtain ⟨k', e', q'⟩ := q3
    cases e'
    exact ite_ff ⟨H3, I3, q'⟩
  | true =>
    refine ite_tt (test_last (thn (hc pins s3 σ H3 _ I3 q3) fun w' s4 ⟨z', H4, I4, r4, q4⟩ => thn (ho' pins s4 σ H4 y z' u w' _ I4 r2 r4 q4) fun d' s5 ⟨z2, H5, I5, r5, k2, e2, q5⟩ => ?_))
    subst e2
    cases r5
    exact wpAny_truthy_bool ⟨H5, I5, q5⟩

/-! ### truth -/
theorem line63 : (sizeLine : Nat) < 2 ^ 63 := by rw [sizeLine_eq]; decide

/-! ### strs and bytes -/
theorem op_add_str : OpR X (binaryOp .Add) (fun x y H Q => ∃ i j, x = .str i ∧ y = .str j ∧ i.length + j.length ≤ sizeLine ∧ Q (.str (i ++ j)) H) := by
  intro pins s σ H x y v u Q I rx ry h
  obtain ⟨i, j, rfl, rfl, hz, q⟩ := h
  obtain ⟨t, rfl⟩ := rx
  obtain ⟨t', rfl⟩ := ry
  exact add_str (fun t' tk => ⟨.str (i ++ j), H, I.tok _, ⟨_, rfl⟩, q⟩) hz


/-! ### scalar builtins, by CallR -/
theorem vals1 {x : V} {us : List Value} (r : Vals [x] us) : ∃ u, us = [u] ∧ RelV x u := by
  cases r with
  | cons r1 r2 => cases r2; exact ⟨_, rfl, r1⟩
theorem vals2 {x y : V} {us : List Value} (r : Vals [x, y] us) : ∃ u w', us = [u, w'] ∧ RelV x u ∧ RelV y w' := by
  cases r with
  | cons r1 r2 =>
    cases r2 with
    | cons r3 r4 => cases r4; exact ⟨_, _, rfl, r1, r3⟩
theorem call_min2 (hc : X.calm = true) : CallR X (.builtin "min") (fun xs H Q => ∃ i j, xs = [.int i, .int j] ∧ Q (.int (if j < i then j else i)) H) := by
  intro pins s σ H xs us Q I r h
  obtain ⟨i, j, rfl, q⟩ := h
  obtain ⟨u, w', rfl, ⟨t, rfl⟩, ⟨t', rfl⟩⟩ := vals2 r
  refine min_two_ints (I.ok.hd hc) fun h' tk k => ⟨_, H, I.kept k, ?_, q⟩
  by_cases hj : j < i
  · rw [if_pos hj, if_pos hj]; exact ⟨_, rfl⟩
  · rw [if_neg hj, if_neg hj]; exact ⟨_, rfl⟩
theorem call_int1 : CallR X (.type "int") (fun xs H Q => (∃ i, xs = [.int i] ∧ Q (.int i) H) ∨ ∃ k, xs = [.bl k] ∧ Q (.int (if k then 1 else 0)) H) := by
  intro pins s σ H xs us Q I r h
  rcases h with ⟨i, rfl, q⟩ | ⟨k, rfl, q⟩
  · obtain ⟨u, rfl, t, rfl⟩ := vals1 r
    exact call_int_int ⟨.int i, H, I, ⟨_, rfl⟩, q⟩
  · obtain ⟨u, rfl, r1⟩ := vals1 r
    cases r1
    exact call_int_bool ⟨.int (if k then 1 else 0), H, I.tok _, ⟨_, rfl⟩, q⟩
end
end L2

namespace L2
open PySem PySem.Spec PyProof.Rows

/-! ### an instance, its attributes a map -/
structure ObjM (h : Heap) (x dx C : Addr) (mA : Str → Option Value) : Prop where
  obj : h.get? x = some (PySem.W.instObj C dx)
  ns : h.Ns1 dx mA
  ne : dx ≠ x

theorem lookIn_ns {h : Heap} {dx : Addr} {mA : Str → Option Value} (n : h.Ns1 dx mA) : ∃ od, h.get? dx = some od ∧ ∀ name, PySem.W.lookIn name od = some (mA name) := by
  obtain ⟨o, es, ep, ho, hd, hk, _, hm⟩ := n
  refine ⟨o, ho, fun name => ?_⟩
  have e := hm name
  unfold nsFind findBy at e
  rw [← Array.find?_toList] at e
  unfold PySem.W.lookIn
  rw [hd]
  dsimp only
  split
  · rename_i y q
    rw [q] at e
    exact congrArg some e
  · rename_i q
    rw [q] at e
    have a : es.toList.any (·.refKey) = false := by
      rw [List.any_eq_false]
      intro y hy
      obtain ⟨z, t, hkey⟩ := hk y (Array.mem_toList_iff.mp hy)
      simp [DictEntry.refKey, hkey]
    have a' : ¬ es.toList.any (·.refKey) = true := by rw [a]; exact Bool.false_ne_true
    rw [if_neg a']
    exact congrArg some e

theorem ObjM.look {h : Heap} {x dx C : Addr} {mA : Str → Option Value} (I : ObjM h x dx C mA) : ∃ od, PySem.W.InstAt h x (PySem.W.instObj C dx) C (some od) ∧ ∀ name, PySem.W.lookIn name od = some (mA name) :=
  let ⟨od, ho, hl⟩ := lookIn_ns I.ns
  ⟨od, ⟨I.obj, rfl, rfl, ho⟩, hl⟩

section
variable {prog : Program} {w : World} {A : Around} {E : Value → Shared → Prop} {s : Shared} {K : PySem.W.Frag} {x dx C f : Addr} {mA : Str → Option Value} {name : Str} {v : Value}





end

/-! ### the attributes as a list of pairs -/


section
variable {P : Program} {w : World} {H H' : Hp} {h h' : Heap} {a C dx : Addr} {fs fs' : List (Str × V)}
theorem ins_get (hok : HOk P w H h) (e : H a = some (.ins C dx fs)) : ∃ mA, ObjM h a dx C mA ∧ (∀ f, RelO (fs.lookup f) (mA f)) ∧ PySem.Within mA (fs.map (·.1)) ∧ fs.length ≤ 1000 ∧ H dx = some (.own a) := by
  obtain ⟨d, z, ne, ob, mA, n, r, q⟩ := (show ObjOk P w H h a (.ins C dx fs) from hok a _ e)
  exact ⟨mA, ⟨ob, n, ne⟩, r, q, z, d⟩
end

/-! ### what of the text a class must have -/
structure Cls (K : PySem.W.Frag) (C : Addr) : Prop where
  pg : PySem.W.plainGet K C Str.empty = true
  hd : PySem.W.hasDictIn K C = true
  po : PySem.W.plainOver K C = true
  sa : PySem.W.findIn K (.ref C) "__setattr__" = some (some (.builtin "object.__setattr__"))
theorem Cls.get {K : PySem.W.Frag} {C : Addr} (c : Cls K C) (f : Str) : PySem.W.plainGet K C f = true := c.pg

section
variable {X : Cx} {pins : List (Addr × Obj)} {σ : St} {H : Hp} {s : Shared} {a C dx : Addr} {fs : List (Str × V)} {f : Str} {v : V} {A : Around} {E : Value → Shared → Prop}






end

/-! ### readings and rules -/

section
variable {X : Cx} {o e value : Expr} {f : Str} {pos pos' tpos : Pos} {ta tv : TE}

end

/-! ### isinstance -/
section
variable {X : Cx} {pins : List (Addr × Obj)} {σ : St} {H : Hp} {s : Shared} {A : Around} {E : Value → Shared → Prop} {Q : Value → Shared → Prop} {c : Value} {b : Bool}
/-- the type of a value, as the fragment's deciders take it; for an instance its class -/
inductive TyOf (K : PySem.W.Frag) (H : Hp) : V → Value → Prop where
  | non : TyOf K H .non (.type "NoneType")
  | bl (x : Bool) : TyOf K H (.bl x) (.type "bool")
  | int (i : Int) : TyOf K H (.int i) (.type "int")
  | str (x : Str) : TyOf K H (.str x) (.type "str")
  | flt (x : UInt64) : TyOf K H (.flt x) (.type "float")
  | lst {a : Addr} {xs : List V} (e : H a = some (.lst xs)) : TyOf K H (.ref a) (.type "list")
  | frz {a : Addr} {o : Obj} {xs : List V} (e : H a = some (.frz o (.lst xs))) : TyOf K H (.ref a) (.type "list")
  | tup {a : Addr} {xs : List V} (e : H a = some (.tup xs)) : TyOf K H (.ref a) (.type "tuple")
  | dK {a : Addr} {kvs : List (Key × V)} (e : H a = some (.dK kvs)) : TyOf K H (.ref a) (.type "dict")
  | dT {a : Addr} {kvs : List (List Key × V)} (e : H a = some (.dT kvs)) : TyOf K H (.ref a) (.type "dict")
  | ins {a C dx : Addr} {fs : List (Str × V)} (e : H a = some (.ins C dx fs)) (cl : Cls K C) (ha : PySem.W.findIn K (.ref C) "__class__" = some (some (.builtin "object.__class__")))
      (hn : PySem.W.specialIn K (.builtin "object.__class__") "__get__" = some (some (.builtin "getset_descriptor.__get__"))) (htk : PySem.W.takesIn K (.builtin "object.__class__") = some true)
      (hm : PySem.W.mroIn K C (.type "object") = some true) : TyOf K H (.ref a) (.ref C)
/-- isinstance(x, c) for one class c, a built-in or an own one: kitOne's answer -/
theorem isinst_ok {x : V} {u t : Value} (I : Inv X pins σ H s) (rx : RelV x u) (ty : TyOf X.K H x t) (e : PySem.W.kitOne X.K t c = some b) (h : ∀ tk, Q (.bool b) { s with toks := tk }) :
    wpAny (model X.prog X.w) A (call (.builtin "isinstance") [u, c]) Q E s := by
  cases ty with
  | non => cases (show u = Value.none from rx); exact PySem.W.kia_one PySem.W.kitx_none I.kIn True.intro e (fun z => nomatch z) h
  | bl y => cases (show u = Value.bool y from rx); exact PySem.W.kia_one PySem.W.kitx_bool I.kIn True.intro e (fun z => nomatch z) h
  | int i => obtain ⟨t, q⟩ := (show ∃ t, u = Value.int i t from rx); cases q; exact PySem.W.kia_one PySem.W.kitx_int I.kIn True.intro e (fun z => nomatch z) h
  | str y => obtain ⟨t, q⟩ := (show ∃ t, u = Value.str y t from rx); cases q; exact PySem.W.kia_one PySem.W.kitx_str I.kIn True.intro e (fun z => nomatch z) h
  | flt y => obtain ⟨t, q⟩ := (show ∃ t, u = Value.float y t from rx); cases q; exact PySem.W.kia_one PySem.W.kitx_float I.kIn True.intro e (fun z => nomatch z) h
  | @lst a xs ea =>
    cases (show u = Value.ref a from rx)
    obtain ⟨_, _, n, _, h1⟩ := (show ObjOk X.prog X.w H s.heap a (.lst xs) from I.hok a _ ea)
    exact PySem.W.kia_one PySem.W.kitx_list I.kIn ⟨_, h1, rfl⟩ e (fun z => nomatch z) h
  | @frz a ob xs ea =>
    cases (show u = Value.ref a from rx)
    obtain ⟨_, _, _, n, _, h1⟩ := (show ObjOk X.prog X.w H s.heap a (.frz ob (.lst xs)) from I.hok a _ ea)
    exact PySem.W.kia_one PySem.W.kitx_list I.kIn ⟨_, h1, rfl⟩ e (fun z => nomatch z) h
  | @tup a xs ea =>
    cases (show u = Value.ref a from rx)
    obtain ⟨_, _, _, p⟩ := (show ObjOk X.prog X.w H s.heap a (.tup xs) from I.hok a _ ea)
    obtain ⟨o, h1, h2, _⟩ := p
    exact PySem.W.kia_one PySem.W.kitx_tuple I.kIn ⟨o, h1, h2⟩ e (fun z => nomatch z) h
  | @dK a kvs ea =>
    cases (show u = Value.ref a from rx)
    obtain ⟨_, _, vs, _, p⟩ := (show ObjOk X.prog X.w H s.heap a (.dK kvs) from I.hok a _ ea)
    obtain ⟨o, es, ep, h1, h2, _⟩ := p
    exact PySem.W.kia_one PySem.W.kitx_dict I.kIn ⟨o, h1, h2.1⟩ e (fun z => nomatch z) h
  | @dT a kvs ea =>
    cases (show u = Value.ref a from rx)
    obtain ⟨_, _, xs, _, o, es, ep, h1, h2, _⟩ := (show ObjOk X.prog X.w H s.heap a (.dT kvs) from I.hok a _ ea)
    exact PySem.W.kia_one PySem.W.kitx_dict I.kIn ⟨o, h1, h2.1⟩ e (fun z => nomatch z) h
  | @ins a C dx fs ea cl ha hn htk hm =>
    cases (show u = Value.ref a from rx)
    obtain ⟨mA, O, _⟩ := ins_get I.hok ea
    obtain ⟨od, J, _⟩ := O.look
    exact PySem.W.kia_one (PySem.W.kitx_own (cl.get _) cl.hd ha hn htk hm) I.kIn J e (fun z => nomatch z) h
end
end L2

namespace L2
open PySem PySem.Spec PyProof.Rows

/-! ### room -/
structure Room (k : Nat) (A : Around) : Prop where
  hd : A.handled = none
  dp : A.depth + 3 * k + 5 < recursionLimit
  un : A.units + 16 * k + 200 < cLine
  gd : A.guards = some []
theorem Room.mono {j k : Nat} {A : Around} (r : Room k A) (h : j ≤ k) : Room j A := ⟨r.hd, by have := r.dp; lia, by have := r.un; lia, r.gd⟩
theorem Room.deeper {k : Nat} {A : Around} (r : Room (k + 1) A) (env : Env) : Room k (A.deeper env) :=
  ⟨r.hd, by have := r.dp; show A.depth + 1 + 3 * k + 5 < _; lia, by have := r.un; show A.units + 3 + 16 * k + 200 < _; lia, r.gd⟩
theorem Room.depth {k : Nat} {A : Around} (r : Room k A) : A.depth < recursionLimit := by have := r.dp; lia
theorem Room.units {k : Nat} {A : Around} (r : Room k A) : A.units + 64 < cLine := by have := r.un; lia

/-! ### argument lists and displays -/
noncomputable def tNil : TA := fun _ H Q => Q [] H
noncomputable def tCons (ta : TE) (tr : TA) : TA := fun σ H Q => ta σ H fun x H1 => tr σ H1 fun xs H2 => Q (x :: xs) H2
section
variable {X : Cx} {e : Expr} {es : List Expr} {te : TE} {t : TA} {pos : Pos}
theorem pa_nil : PA X [] tNil := fun _ _ _ _ H Q I h => Calls.spliced_nil ⟨[], H, I, .nil, h⟩
theorem pa_cons (ha : PE X e te) (hr : PA X es t) (hs : starEach (e :: es) X.env = (false, eval e X.env) :: starEach es X.env := by rfl) : PA X (e :: es) (tCons te t) := by
  intro pos pins s σ H Q I h
  rw [hs]
  show wpAny _ _ (spliced ((false, eval e X.env) :: backTo pos (starEach es X.env))) _ _ s
  refine Calls.spliced_cons (thn (ha pins s σ H _ I h) fun u s1 ⟨x, H1, I1, r1, q1⟩ => ?_)
  exact thn (hr pos pins s1 σ H1 _ I1 q1) fun us s2 ⟨xs, H2, I2, r2, q2⟩ => ⟨x :: xs, H2, I2, .cons r1 r2, q2⟩

/-- a tuple, a list of written items -/
noncomputable def tTup (t : TA) : TE := fun σ H Q => t σ H fun xs H1 => xs.length ≤ sizeLine ∧ ∀ p, H1 p = none → Q (.ref p) (upd H1 p (.tup xs))
noncomputable def tLst (t : TA) : TE := fun σ H Q => t σ H fun xs H1 => xs.length ≤ sizeLine ∧ ∀ p, H1 p = none → Q (.ref p) (upd H1 p (.lst xs))
theorem pe_tup {x1} (h : PA X es t) : PE X (.Tuple es x1 pos) (tTup t) := by
  intro pins s σ H Q I hq
  refine wpAny_Tuple_spliced (thn (h pos pins s σ H _ I hq) fun us s1 ⟨xs, H1, I1, r, z, q⟩ => ⟨by rw [← r.length]; exact z, ?_⟩)
  have hf : H1 s1.heap.objs.size = none := I1.hok.fresh (Nat.le_refl _)
  refine ⟨.ref s1.heap.objs.size, upd H1 s1.heap.objs.size (.tup xs), I1.laid (t' := s1.toks) (fun b u e => Heap.get?_push_of_some _ e) (Nat.le_refl _) ?_, rfl, q _ hf⟩
  exact ⟨z, us, r, ⟨_, Heap.get?_push_size _ rfl, rfl, _, rfl⟩⟩
theorem pe_lst (h : PA X es t) : PE X (.List es pos) (tLst t) := by
  intro pins s σ H Q I hq
  refine wpAny_List_spliced (thn (h pos pins s σ H _ I hq) fun us s1 ⟨xs, H1, I1, r, z, q⟩ => ⟨by rw [← r.length]; exact z, ?_⟩)
  have hf : H1 s1.heap.objs.size = none := I1.hok.fresh (Nat.le_refl _)
  refine ⟨.ref s1.heap.objs.size, upd H1 s1.heap.objs.size (.lst xs), I1.laid (t' := s1.toks) (fun b u e => Heap.get?_push_of_some _ e) (Nat.le_refl _) ?_, rfl, q _ hf⟩
  exact ⟨z, us, 0, r, Heap.get?_push_size _ rfl⟩
end

/-! ### what a def promises -/
/-- a def's promise: the bound arguments in the parameters' order, the heap, the wanted end, the wanted exception -/
noncomputable abbrev Sp := List V → Hp → VK → XK → Prop
/-- how an exception lies behind a call (file 08 gives it): the callers' frames, abstract heap and state ahead of the call, the wish, the exception, the state -/
noncomputable abbrev CXT := List Env → Hp → Shared → XK → Value → Shared → Prop

/-- the state at a call -/
structure Env0 (P : Program) (w : World) (K : PySem.W.Frag) (mg : Str → Option Value) (base : Heap) (A : Around) (outer : List Env) (s : Shared) (H : Hp) : Prop where
  frames : A.frames = some outer
  mod : Mod K mg base
  bs : ∀ b o, base.get? b = some o → s.heap.get? b = some o ∧ H b = none
  bsz : base.objs.size ≤ s.heap.objs.size
  funs : s.heap.FunFrames base outer
  frf : ∀ b ∈ frs outer, H b = none
  hok : HOk P w H s.heap
  bare : AllBare s.gens
/-- a call's end -/
noncomputable def CE (outer : List Env) (P : Program) (w : World) (H : Hp) (s : Shared) (Q : VK) (u : Value) (s' : Shared) : Prop :=
  ∃ v H', s'.os = s.os ∧ AllBare s'.gens ∧ Un (frs outer) [] H H' s.heap s'.heap ∧ HOk P w H' s'.heap ∧ RelV v u ∧ Q v H'
noncomputable def CR (CX : CXT) (outer : List Env) (P : Program) (w : World) (H : Hp) (s : Shared) (Q : VK) (E : XK) (r : Result) (s' : Shared) : Prop :=
  match r with
  | .ok (.ret u) => CE outer P w H s Q u s'
  | .ok _ => False
  | .error e => CX outer H s E e s'
structure FnOk (P : Program) (w : World) (K : PySem.W.Frag) (mg : Str → Option Value) (base : Heap) (CX : CXT) (k : Nat) (f : Addr) (fd : FuncData) (ps : List Str) (sp : Sp) : Prop where
  len : ∀ vs H Q E, sp vs H Q E → vs.length = ps.length
  run : ∀ (A : Around) (outer : List Env) (s : Shared) (H : Hp) (args : Args) (us : List Value) (vs : List V) (Q : VK) (E : XK), Room k A → Env0 P w K mg base A outer s H → BindsTo s fd args (ps.zip us) → Vals vs us → sp vs H Q E →
    codeAny (model P w) A (.call (.ref f) args) (CR CX outer P w H s Q E) s


section
variable {X : Cx} {pins : List (Addr × Obj)} {σ : St} {H : Hp} {s s' : Shared}
/-- from a body: what a callee wants -/
theorem Inv.env0 (I : Inv X pins σ H s) : Env0 X.prog X.w X.K X.mg X.base X.A X.stack s H :=
  ⟨I.ok.frames, I.ok.mod, I.bs, Nat.le_trans I.ok.bsz I.sz, I.stack, I.stkFree, I.hok, I.bare⟩
/-- behind a call -/
theorem Inv.after {Q : VK} {u : Value} (I : Inv X pins σ H s) (h : CE X.stack X.prog X.w H s Q u s') : EP X pins σ Q u s' := by
  obtain ⟨v, H', os, bare, un, hok, r, q⟩ := h
  obtain ⟨hh, g, d, t, os'⟩ := s'
  obtain rfl : os' = s.os := os
  exact ⟨v, H', I.call (h' := hh) (g' := g) (d' := d) (t' := t) (ch := []) un hok bare (fun b z => absurd z (by simp)), r, q⟩
end

/-! ### calls -/
/-- f(..): the written arguments, then the defaults dvs; E: what is wanted of an exception -/
noncomputable def tCall (sp : Sp) (dvs : List V) (E : XK) (t : TA) : TE := fun σ H Q => t σ H fun vs H1 => sp (vs ++ dvs) H1 Q E

/-- how the parameters are bound: us the positional arguments, kw the keywords' values by name, ds the defaults that fill up -/
noncomputable def Binds (K : PySem.W.Frag) (fd : FuncData) (ps : List Str) (ds : List Value) : Prop :=
  ∀ (s : Shared) (us : List Value), K.In s.heap → (us ++ ds).length = ps.length → BindsTo s fd ⟨us, []⟩ (ps.zip (us ++ ds))
/-- every parameter is given -/
theorem Binds.all {K : PySem.W.Frag} {fd : FuncData} {ps : List Str} (h : ∀ us : List Value, us.length = ps.length → bindArgs fd ⟨us, []⟩ = pure (ps.zip us)) : Binds K fd ps [] := fun s us _ hl => by
  rw [List.append_nil] at hl ⊢
  exact .of_eq (h us hl)

/-- an exception of a callee reaches what this body wants of exceptions -/
noncomputable def Passes (CX : CXT) (X : Cx) (E : XK) : Prop := ∀ (pins : List (Addr × Obj)) (σ : St) (H : Hp) (s : Shared) (e : Value) (s' : Shared), Inv X pins σ H s → CX X.stack H s E e s' → X.xe e s'

section
variable {X : Cx} {CX : CXT} {k : Nat} {f C : Addr} {fd : FuncData} {ps : List Str} {sp : Sp} {dvs : List V} {ds : List Value} {E : XK} {x m : Str} {p pos apos : Pos} {e o : Expr} {es : List Expr} {ta : TE} {t : TA}

/-- the callee runs -/
theorem run_fn {pins : List (Addr × Obj)} {σ : St} {H : Hp} {s : Shared} {Q : VK} {us : List Value} {vs : List V} (F : FnOk X.prog X.w X.K X.mg X.base CX k f fd ps sp) (hr : Room k X.A) (hb : Binds X.K fd ps ds) (hd : Vals dvs ds) (hx : Passes CX X E)
    (I : Inv X pins σ H s) (r : Vals vs us) (h : sp (vs ++ dvs) H Q E) : wpAny (model X.prog X.w) X.A (call (.ref f) us) (EP X pins σ Q) X.xe s := by
  have r2 : Vals (vs ++ dvs) (us ++ ds) := r.append hd
  have hl : (us ++ ds).length = ps.length := by rw [← r2.length]; exact F.len _ _ _ _ h
  refine wpAny_call (codeAny_mono (F.run X.A X.stack s H ⟨us, []⟩ (us ++ ds) (vs ++ dvs) Q E hr I.env0 (hb s us I.kIn hl) r2 h) fun r s' hq => ?_)
  cases r with
  | error e => exact hx pins σ H s e s' I hq
  | ok fl =>
    cases fl with
    | ret u => exact I.after hq
    | next => exact False.elim hq
    | brk => exact False.elim hq
    | cont => exact False.elim hq

theorem pe_call (F : FnOk X.prog X.w X.K X.mg X.base CX k f fd ps sp) (hr : Room k X.A) (hg : Gl X x) (hm : X.mg x = some (.ref f)) (hk : PySem.W.keepIn X.K (.ref f) = true) (hb : Binds X.K fd ps ds) (hd : Vals dvs ds) (hx : Passes CX X E)
    (ha : PA X (e :: es) t) (hdb : (x == ("__debug__" : Str)) = false := by decide) (he : starEach (e :: es) X.env = (false, eval e X.env) :: starEach es X.env := by rfl) (hpl : (backTo pos (starEach es X.env)).any (·.1) = false := by rfl) :
    PE X (.Call (.Name x p) (e :: es) [] pos) (tCall sp dvs E t) := by
  intro pins s σ H Q I h
  refine wpAny_Call_Name_kw (ld_glob I hg hm ?_ hdb)
  refine PySem.W.callWith_K (h₀ := X.base) I.ok.mod.kin hk (thn (ha pos pins s σ H _ I h) fun us s1 ⟨vs, H1, I1, r, q⟩ => ⟨I1.kIn, ?_⟩) he hpl
  exact run_fn F hr hb hd hx I1 r q
theorem pe_call0 (F : FnOk X.prog X.w X.K X.mg X.base CX k f fd ps sp) (hr : Room k X.A) (hg : Gl X x) (hm : X.mg x = some (.ref f)) (hk : PySem.W.keepIn X.K (.ref f) = true) (hb : Binds X.K fd ps ds) (hd : Vals dvs ds) (hx : Passes CX X E)
    (hdb : (x == ("__debug__" : Str)) = false := by decide) : PE X (.Call (.Name x p) [] [] pos) (tCall sp dvs E tNil) := by
  intro pins s σ H Q I h
  refine wpAny_Call_Name_kw (ld_glob I hg hm ?_ hdb)
  exact PySem.W.callWith_K0 I.kIn hk (run_fn (us := []) F hr hb hd hx I .nil h)



end

/-! ### keywords -/
section
variable {X : Cx} {CX : CXT} {k : Nat} {f C : Addr} {fd : FuncData} {ps ks : List Str} {sp : Sp} {E : XK} {x m : Str} {p pos apos kpos : Pos} {e o : Expr} {es : List Expr} {kws : List Keyword} {te ta : TE} {t tk : TA} {nm : Option Str}

variable {g : List Value → List Value → List Value} {gV : List V → List V → List V}
end

/-! ### a def's body keeps its promise -/
/-- names: the parameters first -/
structure FnScope (N P : List Str) (sc : Scope) : Prop where
  kind : sc.kind = .function
  co : sc.isCoroutine = false
  gen : sc.isGenerator = false
  nd : N.Nodup
  pre : N.take P.length = P
  par : ∀ x ∈ P, sc.names.lookup x = some .local ∨ sc.names.lookup x = some .cell
  nofree : ∀ y ∈ sc.names, y.2 ≠ .free

theorem bindL_out {kindOf : Str → Option NameKind} {x : Str} : ∀ {binds : List (Str × Value)} {m : Str → Option Value}, (∀ v, (x, v) ∉ binds) → bindL kindOf binds m x = m x
  | [], _, _ => rfl
  | (n, v) :: r, m, h => by
    unfold bindL
    rw [bindL_out fun w hw => h w (List.mem_cons_of_mem _ hw)]
    split
    · have : x ≠ n := by rintro rfl; exact h v List.mem_cons_self
      simp [this]
    · rfl
theorem bindC_out {kindOf : Str → Option NameKind} {x : Str} : ∀ {binds : List (Str × Value)} {m : Str → Option Value}, (∀ v, (x, v) ∉ binds) → bindC kindOf binds m x = m x
  | [], _, _ => rfl
  | (n, v) :: r, m, h => by
    unfold bindC
    rw [bindC_out fun w hw => h w (List.mem_cons_of_mem _ hw)]
    split
    · rfl
    · have : x ≠ n := by rintro rfl; exact h v List.mem_cons_self
      simp [this]
theorem bindL_get {kindOf : Str → Option NameKind} {x : Str} {v : Value} : ∀ {P : List Str} {vs : List Value} {i : Nat} {m : Str → Option Value}, P.Nodup → P[i]? = some x → vs[i]? = some v → kindOf x = some .local →
    bindL kindOf (P.zip vs) m x = some v
  | [], _, _, _, _, h, _, _ => by simp at h
  | _ :: _, [], _, _, _, _, h, _ => by simp at h
  | p :: P, w :: vs, 0, m, nd, h1, h2, hk => by
    simp at h1 h2; subst h1; subst h2
    show bindL kindOf ((p, w) :: P.zip vs) m p = _
    unfold bindL
    rw [bindL_out fun v hv => (List.nodup_cons.mp nd).1 (List.of_mem_zip hv).1, if_pos hk]
    simp
  | p :: P, w :: vs, i + 1, m, nd, h1, h2, hk => by
    show bindL kindOf ((p, w) :: P.zip vs) m x = _
    unfold bindL
    exact bindL_get (i := i) (List.nodup_cons.mp nd).2 (by simpa using h1) (by simpa using h2) hk
theorem bindC_get {kindOf : Str → Option NameKind} {x : Str} {v : Value} : ∀ {P : List Str} {vs : List Value} {i : Nat} {m : Str → Option Value}, P.Nodup → P[i]? = some x → vs[i]? = some v → kindOf x ≠ some .local →
    bindC kindOf (P.zip vs) m x = some v
  | [], _, _, _, _, h, _, _ => by simp at h
  | _ :: _, [], _, _, _, _, h, _ => by simp at h
  | p :: P, w :: vs, 0, m, nd, h1, h2, hk => by
    simp at h1 h2; subst h1; subst h2
    show bindC kindOf ((p, w) :: P.zip vs) m p = _
    unfold bindC
    rw [bindC_out fun v hv => (List.nodup_cons.mp nd).1 (List.of_mem_zip hv).1, if_neg hk]
    simp
  | p :: P, w :: vs, i + 1, m, nd, h1, h2, hk => by
    show bindC kindOf ((p, w) :: P.zip vs) m x = _
    unfold bindC
    exact bindC_get (i := i) (List.nodup_cons.mp nd).2 (by simpa using h1) (by simpa using h2) hk

/-- the names' values at the entry -/
noncomputable def start (N : List Str) (vs : List V) : St := vs.map some ++ List.replicate (N.length - vs.length) none

/-- the context of a def's body, at its entry; an exception leaves the frame, then lies as CX says -/
noncomputable def cxOf (CX : CXT) (P : Program) (w : World) (K : PySem.W.Frag) (mg : Str → Option Value) (base : Heap) (N : List Str) (qual : Str) (scope : Scope) (f : Addr) (cd : Value) (A : Around) (outer : List Env) (s : Shared) (H : Hp) (E : XK) : Cx where
  prog := P
  w := w
  K := K
  mg := mg
  base := base
  A := A.deeper (envOfC qual scope s.heap.objs.size f cd)
  N := N
  s₀ := s
  H₀ := H
  env := envOfC qual scope s.heap.objs.size f cd
  outer := outer
  stack := envOfC qual scope s.heap.objs.size f cd :: outer
  ex := []
  calm := true
  fn := fun _ => true
  pn := []
  xe := fun e s' => wpAny (model P w) (A.deeper (envOfC qual scope s.heap.objs.size f cd)) (leaving (envOfC qual scope s.heap.objs.size f cd) e) (fun _ s'' => CX outer H s E e s'') (fun e' s'' => CX outer H s E e' s'') s'

theorem cell_has {sc : Scope} {n : Nat} {x : Str} (h : sc.names.lookup x = some .cell) : ∃ c, (cellsFrom n sc.names []).lookup x = some c := by
  have q := PySem.W.cellsFrom_some sc.names n [] (.inl h)
  exact Option.isSome_iff_exists.mp q

theorem inv_start {CX : CXT} {P : Program} {w : World} {K : PySem.W.Frag} {mg : Str → Option Value} {base : Heap} {N ps : List Str} {qual : Str} {scope : Scope} {f : Addr} {cd : Value} {A : Around} {outer : List Env} {s s1 : Shared} {H : Hp} {E : XK} {us : List Value} {vs : List V}
    (S : FnScope N ps scope) (hd : A.handled = none) (e0 : Env0 P w K mg base A outer s H) (hl : vs.length = ps.length) (r : Vals vs us)
    (x : InCallC s s.heap.objs.size (bindL (envOfC qual scope s.heap.objs.size f cd).kindOf (ps.zip us) fun _ => none) (cellsFrom (s.heap.objs.size + 1) scope.names []) (bindC (envOfC qual scope s.heap.objs.size f cd).kindOf (ps.zip us) fun _ => none) s1) :
    Inv (cxOf CX P w K mg base N qual scope f cd A outer s H E) [] (start N vs) H s1 := by
  have hpl : ps.length ≤ N.length := by have := congrArg List.length S.pre; rw [List.length_take] at this; lia
  obtain ⟨h1, tk, rfl, hk⟩ := x.done
  have noA : ∀ b : Addr, b ∉ (cxOf CX P w K mg base N qual scope f cd A outer s H E).ex := fun b z => absurd (show b ∈ ([] : List Addr) from z) (by simp)
  refine ⟨⟨e0.mod, S.kind, rfl, rfl, Nat.le_refl _, fun y z c h1 h2 => ?_, fun y hy => ?_, fun y c _ h => ?_, fun _ => hd, Around.frames_deeper e0.frames, .inr ⟨rfl, rfl⟩, fun b z => absurd z (noA b), e0.bs, e0.bsz, fun b _ _ => noA b, fun b z => absurd z (noA b), e0.funs, e0.frf⟩,
    rfl, e0.bare, Un.kept hk, ⟨_, x.toInCall.ns, fun i y v h1 h2 h3 => ?_⟩, fun y c h => ⟨_, x.cell y c h⟩, e0.hok.fresh (Nat.le_refl _), fun y c h => ?_, fun p hp => absurd (show p ∈ ([] : List (Addr × Obj)) from hp) (by simp), e0.hok.kept hk, ?_⟩
  · exact name_of_addr x.apart (PySem.mem_of_lookup h1) (PySem.mem_of_lookup h2)
  · have hy : scope.names.lookup y = some .cell ∨ scope.names.lookup y = some .free := hy
    rcases hy with hy | hy
    · exact cell_has hy
    · exact absurd rfl (S.nofree _ (PySem.mem_of_lookup hy))
  · exact Nat.le_of_lt (x.above y c (PySem.mem_of_lookup h))
  · have hi : i < vs.length := by
      unfold start at h2
      by_cases hi : i < vs.length
      · exact hi
      · rw [List.getElem?_append_right (by simpa using hi)] at h2
        rw [List.getElem?_replicate] at h2
        split at h2 <;> cases h2
    have ha : vs[i]? = some v := by
      unfold start at h2
      rw [List.getElem?_append_left (by simpa using hi), List.getElem?_map] at h2
      cases e : vs[i]? with
      | none => rw [e] at h2; cases h2
      | some a => rw [e] at h2; cases h2; rfl
    obtain ⟨u, hu, rv⟩ := r.get ha
    have hp : ps[i]? = some y := by
      rw [← S.pre, List.getElem?_take_of_lt (by lia)]; exact h1
    have ndP : ps.Nodup := by rw [← S.pre]; exact S.nd.sublist (List.take_sublist _ _)
    refine ⟨u, rv, ?_⟩
    rcases S.par y (List.mem_of_getElem? hp) with k | k
    · exact .inl ⟨k, bindL_get ndP hp hu k⟩
    · obtain ⟨c, e⟩ := cell_has (n := s.heap.objs.size + 1) k
      refine .inr ⟨.inl k, c, e, ?_⟩
      have q := x.cell y c e
      rw [bindC_get ndP hp hu (by show scope.names.lookup y ≠ _; rw [k]; decide)] at q
      exact q
  · exact e0.hok.fresh (Nat.le_of_lt (x.above y c (PySem.mem_of_lookup h)))
  · unfold start
    show _ = N.length
    rw [List.length_append, List.length_map, List.length_replicate]
    lia

/-- THE RULE: a def (or a method) of the text, by its body. The body's reading t is chosen for each entry; it is run at the parameters' values -/
theorem fn_of {CX : CXT} {P : Program} {w : World} {K : PySem.W.Frag} {mg : Str → Option Value} {base : Heap} {k : Nat} {f : Addr} {name qual : Str} {params : Arguments} {body : List Stmt} {scope : Scope} {dV kV doc pm cdv ct oc : Value} {an od : Option Addr}
    {osl : Array (Option Value)} {N ps : List Str} {sp : Sp} (lk : K.lookup f = some ⟨oc, od, .func (PySem.W.fnOf name qual params body scope dV kV doc pm an cdv ct), osl⟩) (hcd : PySem.W.codeIn K cdv qual = true) (S : FnScope N ps scope)
    (len : ∀ vs H Q E, sp vs H Q E → vs.length = ps.length)
    (hbody : ∀ (A : Around) (outer : List Env) (s : Shared) (H : Hp) (vs : List V) (Q : VK) (E : XK), Room k (A.deeper (envOfC qual scope s.heap.objs.size f cdv)) → sp vs H Q E →
      ∃ t, PSs (cxOf CX P w K mg base N qual scope f cdv A outer s H E) body t ∧ t { nx := fun _ H' => Q .non H', rt := Q } (start N vs) H) :
    FnOk P w K mg base CX (k + 1) f (PySem.W.fnOf name qual params body scope dV kV doc pm an cdv ct) ps sp := by
  refine ⟨len, fun A outer s H args us vs Q E hr e0 hb r hsp => ?_⟩
  have hl := len _ _ _ _ hsp
  have KX : K.In s.heap := e0.mod.kin.keeps fun b o e => (e0.bs b o e).1
  have lim : s.heap.NoLimit := e0.mod.nolimit.keeps fun b o e => (e0.bs b o e).1
  have hkind : ∀ y ∈ ps.zip us, scope.names.lookup y.1 = some .local ∨ (scope.names.lookup y.1 = some .cell ∧ ((cellsFrom (s.heap.objs.size + 1) scope.names []).lookup y.1).isSome = true) := fun ⟨n, v⟩ hy => by
    rcases S.par n (List.of_mem_zip hy).1 with q | q
    · exact .inl q
    · exact .inr ⟨q, PySem.W.cellsFrom_some _ _ _ (.inl q)⟩
  refine codeAny_call_function hr.depth (KX _ _ lk) rfl S.co S.gen rfl (PySem.W.codeRec_of KX hcd) (hb _ _ _ _ ?_)
  refine wpAny_newFunctionEnv_cells S.kind hkind fun env he s1 x => ?_
  subst he
  refine ⟨lim.keeps x.toInCall.keep, codeAny_func ?_⟩
  obtain ⟨t, ht, hq⟩ := hbody A outer s H vs Q E (hr.deeper _) hsp
  have I : Inv (cxOf CX P w K mg base N qual scope f cdv A outer s H E) [] (start N vs) H s1 := inv_start S hr.hd e0 hl r x
  refine wpAny_mono (ht [] s1 (start N vs) H _ I hq) (fun fl s' hs => ?_) fun e s' hs => hs
  have fin : ∀ {σ' : St} {H' : Hp} {v : V} {u : Value}, Inv (cxOf CX P w K mg base N qual scope f cdv A outer s H E) [] σ' H' s' → RelV v u → Q v H' → CE outer P w H s Q u s' :=
    fun {σ' H' v u} J rv q => ⟨v, H', J.os, J.bare, J.base, J.hok, rv, q⟩
  cases fl with
  | ret u =>
    obtain ⟨v, σ', H', J, rv, q⟩ := hs
    exact fin J rv q
  | next =>
    obtain ⟨σ', H', J, q⟩ := hs
    exact fin (v := V.non) (u := Value.none) J rfl q
  | brk =>
    obtain ⟨_, _, _, q⟩ := hs
    exact False.elim q
  | cont =>
    obtain ⟨_, _, _, q⟩ := hs
    exact False.elim q
end L2

namespace L2
open PySem PySem.Spec PyProof.Rows
section
variable {X : Cx} {x : Str} {p pos : Pos} {e : Expr} {es : List Expr} {t : TA} {id T : String} {r : List V → Hp → VK → Prop}

noncomputable def tCB (r : List V → Hp → VK → Prop) (t : TA) : TE := fun σ H Q => t σ H fun vs H1 => r vs H1 Q
/-- f(e, ..), f a built-in function -/
theorem pe_callB (hc : CallR X (.builtin id) r) (hg : Gl X x) (hm : X.mg x = none) (hv : bootBuiltins x = some (.builtin id)) (ha : PA X (e :: es) t) (hn : x ≠ "__name__" := by decide) (hdb : (x == ("__debug__" : Str)) = false := by decide)
    (he : starEach (e :: es) X.env = (false, eval e X.env) :: starEach es X.env := by rfl) (hpl : (backTo pos (starEach es X.env)).any (·.1) = false := by rfl) : PE X (.Call (.Name x p) (e :: es) [] pos) (tCB r t) := by
  intro pins s σ H Q I h
  refine wpAny_Call_Name_kw (ld_blt I hg hm hv ?_ hn hdb)
  exact PyProof.Rows.callWith_builtin1 (thn (ha pos pins s σ H _ I h) fun us s1 ⟨vs, H1, I1, r1, q1⟩ => hc pins s1 σ H1 vs us Q I1 r1 q1) he hpl
/-- T(e, ..), T a built-in type -/
theorem pe_callTy (hc : CallR X (.type T) r) (hg : Gl X x) (hm : X.mg x = none) (hv : bootBuiltins x = some (.type T)) (ha : PA X (e :: es) t) (hn : x ≠ "__name__" := by decide) (hdb : (x == ("__debug__" : Str)) = false := by decide)
    (he : starEach (e :: es) X.env = (false, eval e X.env) :: starEach es X.env := by rfl) (hpl : (backTo pos (starEach es X.env)).any (·.1) = false := by rfl) : PE X (.Call (.Name x p) (e :: es) [] pos) (tCB r t) := by
  intro pins s σ H Q I h
  refine wpAny_Call_Name_kw (ld_blt I hg hm hv ?_ hn hdb)
  exact PyProof.Rows.callWith_type1 (thn (ha pos pins s σ H _ I h) fun us s1 ⟨vs, H1, I1, r1, q1⟩ => hc pins s1 σ H1 vs us Q I1 r1 q1) he hpl
end
end L2

namespace HT
open PySem PyProof.Rows



section
open PySem.SeqAt
open PySem.AutoSeq1 (wpAny_loadPart')
open PySem.MeetsSeq PySem.MeetsSeq2 PySem.MeetsSeq3

end

section
variable {prog : Program} {w : World} {A : Around} {E : Value → Shared → Prop} {s : Shared}



/-! ### t[a:b], not the whole -/
/-- a slice's bound as a place among n (d where it is left out) -/
noncomputable def sIx (n d : Nat) : Option Int → Nat
  | none => d
  | some v => if v < 0 then (v + (n : Int)).toNat else min v.toNat n
theorem sIx_none (n d : Nat) : sIx n d none = d := rfl
theorem sIx_nat (n d k : Nat) : sIx n d (some (k : Int)) = min k n := by
  show (if (k : Int) < 0 then ((k : Int) + (n : Int)).toNat else min (k : Int).toNat n) = min k n
  rw [if_neg (by lia), Int.toNat_natCast]

end
end HT

namespace L2
open PySem PySem.Spec PyProof.Rows

/-! ### the parts of a slice -/
noncomputable abbrev TO := St → Hp → (Option Int → Hp → Prop) → Prop
/-- a slice's part (left out, or an int) -/
noncomputable def PO (X : Cx) (e : Option Expr) (t : TO) : Prop :=
  ∀ (pins : List (Addr × Obj)) (s : Shared) (σ : St) (H : Hp) (Q : Option Int → Hp → Prop), Inv X pins σ H s → t σ H Q →
    wpAny (model X.prog X.w) X.A (evalPart e X.env) (fun u s' => ∃ o H', Inv X pins σ H' s' ∧ IsPart u o ∧ Q o H') X.xe s
noncomputable def tNoPart : TO := fun _ H Q => Q none H
noncomputable def tPart (t : TE) : TO := fun σ H Q => t σ H fun x H1 => ∃ i, x = .int i ∧ Q (some i) H1

theorem intsAre_of {ns : List Int} : ∀ {us : List Value}, Vals (ns.map V.int) us → IntsAre us ns := by
  induction ns with
  | nil => intro us r; rw [List.map_nil] at r; cases r; exact .nil
  | cons n ns ih =>
    intro us r
    rw [List.map_cons] at r
    cases r with
    | cons r1 r2 =>
      obtain ⟨t, e⟩ := r1
      subst e
      exact .cons n t (ih r2)

section
variable {X : Cx} {e : Expr} {te : TE} {lo hi : Option Expr} {tl th : TO} {pos p2 : Pos}

theorem po_none : PO X none tNoPart := by
  intro pins s σ H Q I h
  rw [evalPart_none]
  exact wpAny_pure ⟨none, H, I, .none, h⟩
theorem po_some (h : PE X e te) : PO X (some e) (tPart te) := by
  intro pins s σ H Q I hw
  rw [evalPart_some]
  refine thn (h pins s σ H _ I hw) fun u s1 ⟨x, H1, I1, r1, q1⟩ => ?_
  obtain ⟨i, rfl, q⟩ := q1
  obtain ⟨t, rfl⟩ := r1
  exact ⟨some i, H1, I1, .int i t, q⟩

/-- what a slice of a value is, by values: the slice object stands at sl -/
noncomputable def SlR (X : Cx) (r : V → Option Int → Option Int → Hp → VK → Prop) : Prop :=
  ∀ (pins : List (Addr × Obj)) (s : Shared) (σ : St) (H : Hp) (x : V) (v vl vu : Value) (lo hi : Option Int) (sl : Addr) (Q : VK), Inv X pins σ H s → RelV x v → s.heap.IsSliceOf sl vl vu .none → IsPart vl lo → IsPart vu hi → r x lo hi H Q →
    ∃ T id, typeLookup (.type T) "__getitem__" = pure (some (.builtin id)) ∧ s.TypeIs v T ∧ wpAny (model X.prog X.w) X.A (getItem v (.ref sl)) (EP X pins σ Q) X.xe s
noncomputable def tSl (r : V → Option Int → Option Int → Hp → VK → Prop) (te : TE) (tl th : TO) : TE := fun σ H Q => te σ H fun x H1 => tl σ H1 fun l H2 => th σ H2 fun u H3 => r x l u H3 Q
/-- a[lo:hi], any a -/
theorem pe_slice {r : V → Option Int → Option Int → Hp → VK → Prop} (hr : SlR X r) (he : PE X e te) (hl : PO X lo tl) (hu : PO X hi th) : PE X (.Subscript e (.Slice lo hi none p2) pos) (tSl r te tl th) := by
  intro pins s σ H Q I h
  refine Subscript_ (thn (he pins s σ H _ I h) fun v s1 ⟨x, H1, I1, r1, q1⟩ => ?_)
  refine wpAny_Slice (thn (hl pins s1 σ H1 _ I1 q1) fun vl s2 ⟨l, H2, I2, pl, q2⟩ => thn (hu pins s2 σ H2 _ I2 q2) fun vu s3 ⟨u, H3, I3, pu, q3⟩ => ?_)
  rw [evalPart_none]
  refine wpAny_pure ?_
  have I4 : Inv X pins σ H3 { s3 with heap := s3.heap.push { cls := .type "slice", data := .fields #[vl, vu, .none] } } := I3.kept (t' := s3.toks) fun b ob q => Heap.get?_push_of_some _ q
  obtain ⟨T, id, hT, ht, hg⟩ := hr pins { s3 with heap := s3.heap.push { cls := .type "slice", data := .fields #[vl, vu, .none] } } σ H3 x v vl vu l u s3.heap.objs.size Q I4 r1 (Heap.IsSliceOf.new ..) pl pu q3
  show wpAny (model X.prog X.w) X.A (subscriptTail e (.Slice lo hi none p2) v (.ref s3.heap.objs.size)) (EP X pins σ Q) X.xe { s3 with heap := s3.heap.push { cls := .type "slice", data := .fields #[vl, vu, .none] } }
  exact tail_any (ops := [.ref s3.heap.objs.size, v]) ht hT hg (by with_unfolding_all rfl)

/-- the items of xs[lo:hi] -/
noncomputable def cutV (xs : List V) (lo hi : Option Int) : List V := (xs.drop (HT.sIx xs.length 0 lo)).take (HT.sIx xs.length xs.length hi - HT.sIx xs.length 0 lo)
theorem cutV_length (xs : List V) (lo hi : Option Int) : (cutV xs lo hi).length ≤ xs.length := by
  unfold cutV
  rw [List.length_take, List.length_drop]
  lia

/-! ### t < u, t + u -/
end
end L2

namespace L2
open PySem PySem.Spec PyProof.Rows

/-! ### places -/
/-- the place that an index of any sign means -/
noncomputable def ixN (n : Nat) (i : Int) : Option Nat := if 0 ≤ i then (if i < n then some i.toNat else none) else if -(n : Int) ≤ i then some (i + n).toNat else none
noncomputable def atI {α : Type} (xs : List α) (i : Int) : Option α := (ixN xs.length i).bind fun j => xs[j]?
theorem ixN_seq {n : Nat} {i : Int} {j : Nat} (h : ixN n i = some j) : seqIndex? i n = some j ∧ j < n ∧ -(n : Int) ≤ i ∧ i < n := by
  unfold ixN at h
  by_cases h0 : 0 ≤ i
  · rw [if_pos h0] at h
    by_cases h1 : i < n
    · rw [if_pos h1] at h
      have e : i.toNat = j := Option.some.inj h
      exact ⟨by rw [seqIndex_of h0 h1, e], by lia, by lia, h1⟩
    · rw [if_neg h1] at h; cases h
  · rw [if_neg h0] at h
    by_cases h1 : -(n : Int) ≤ i
    · rw [if_pos h1] at h
      have e : (i + n).toNat = j := Option.some.inj h
      exact ⟨by rw [seqIndex_neg (by lia) h1, e], by lia, h1, by lia⟩
    · rw [if_neg h1] at h; cases h
theorem atI_get {α : Type} {xs : List α} {i : Int} {v : α} (h : atI xs i = some v) : ∃ j, seqIndex? i xs.length = some j ∧ xs[j]? = some v ∧ j < xs.length ∧ -(xs.length : Int) ≤ i ∧ i < xs.length := by
  unfold atI at h
  cases e : ixN xs.length i with
  | none => rw [e] at h; cases h
  | some j =>
    rw [e] at h
    obtain ⟨h1, h2, h3, h4⟩ := ixN_seq e
    exact ⟨j, h1, h, h2, h3, h4⟩
theorem atI_nat {α : Type} {xs : List α} {j : Nat} {v : α} (h : xs[j]? = some v) : atI xs (j : Int) = some v := by
  have hj : j < xs.length := (List.getElem?_eq_some_iff.mp h).1
  have e : ixN xs.length (j : Int) = some j := by
    unfold ixN
    rw [if_pos (by lia), if_pos (by lia)]; simp
  unfold atI; rw [e]; exact h

/-! ### what may be subscripted -/
/-- what stands as an index of a plain subscript -/
noncomputable def PlainIx (b : Expr) : Prop := ∀ o i, subscripted b false o i = operate [o, i] (getItem o i)
/-- a subscript by values -/
noncomputable def IxR (X : Cx) (r : R2) : Prop :=
  ∀ (value slice : Expr) (pins : List (Addr × Obj)) (s : Shared) (σ : St) (H : Hp) (x y : V) (v u : Value) (Q : VK), Inv X pins σ H s → RelV x v → RelV y u → r x y H Q →
    subscripted slice false v u = operate [v, u] (getItem v u) → wpAny (model X.prog X.w) X.A (subscriptTail value slice v u) (EP X pins σ Q) X.xe s
/-- a call of a builtin's method by values: the receiver, the arguments -/
noncomputable def MtR (X : Cx) (id : String) (r : V → List V → Hp → VK → Prop) : Prop :=
  ∀ (pins : List (Addr × Obj)) (s : Shared) (σ : St) (H : Hp) (x : V) (xs : List V) (v : Value) (us : List Value) (Q : VK), Inv X pins σ H s → RelV x v → Vals xs us → r x xs H Q →
    wpAny (model X.prog X.w) X.A (call (.builtin id) (v :: us)) (EP X pins σ Q) X.xe s
section
variable {X : Cx} {a b : Expr} {ta tb : TE} {pos : Pos}
/-- a[b] -/
theorem pe_ix {r : R2} (hr : IxR X r) (ha : PE X a ta) (hb : PE X b tb) (hs : PlainIx b) : PE X (.Subscript a b pos) (tOp r ta tb) := by
  intro pins s σ H Q I h
  exact Subscript_ (binT ha hb I h fun v u s2 x y H2 I2 rx ry q => hr a b pins s2 σ H2 x y v u Q I2 rx ry q (hs _ _))

noncomputable def rIxL (K : PySem.W.Frag) : R2 := fun x y H Q => ∃ p xs i v, x = .ref p ∧ y = .int i ∧ SqL K H p xs ∧ atI xs i = some v ∧ Q v H
noncomputable def rIxT (K : PySem.W.Frag) : R2 := fun x y H Q => ∃ p xs i v, x = .ref p ∧ y = .int i ∧ SqT K H p xs ∧ atI xs i = some v ∧ Q v H
noncomputable def rIxS : R2 := fun x y H Q => ∃ z i c, x = .str z ∧ y = .int i ∧ z.length ≤ sizeLine ∧ atI z.cps.toList i = some c ∧ Q (.str ⟨#[c]⟩) H
theorem ix_list : IxR X (rIxL X.K) := by
  intro value slice pins s σ H x y v u Q I rx ry h hs
  obtain ⟨p, xs, i, z, rfl, rfl, hq, he, q⟩ := h
  cases rx
  obtain ⟨t, rfl⟩ := ry
  obtain ⟨its, r, pl, hz⟩ := I.list hq
  obtain ⟨j, h1, h2, h3, h4, h5⟩ := atI_get he
  obtain ⟨w, ew, rw'⟩ := r.get h2
  have hl := r.length
  have hn := line63
  have fin : EP X pins σ Q w s := ⟨z, H, I, rw', q⟩
  by_cases h0 : 0 ≤ i
  · have hj : i.toNat = j := by
      rw [seqIndex_of h0 h5] at h1
      exact Option.some.inj h1
    exact item_listR pl.isList h0 (by lia) (by rw [hj]; simpa using ew) fin hs
  · have hj : (i + (its.toArray.size : Int)).toNat = j := by
      rw [seqIndex_neg (by lia) h4] at h1
      rw [List.size_toArray, ← hl]
      exact Option.some.inj h1
    exact subscriptTail_builtinR (x := w) pl.isList.typeIs slot_list_getitem.lookup
      (wpAny_getItem_list_neg (Q := fun r s' => r = w ∧ EP X pins σ Q r s') pl.isList (by lia) (by rw [List.size_toArray] <;> lia) (by lia) (by rw [hj]; simpa using ew) ⟨rfl, fin⟩) hs
theorem ix_tup : IxR X (rIxT X.K) := by
  intro value slice pins s σ H x y v u Q I rx ry h hs
  obtain ⟨p, xs, i, z, rfl, rfl, hq, he, q⟩ := h
  cases rx
  obtain ⟨t, rfl⟩ := ry
  obtain ⟨its, r, pl, hz⟩ := I.tuple hq
  obtain ⟨j, h1, h2, h3, h4, h5⟩ := atI_get he
  obtain ⟨w, ew, rw'⟩ := r.get h2
  have hl := r.length
  have hn := line63
  have fin : EP X pins σ Q w s := ⟨z, H, I, rw', q⟩
  exact subscriptTail_builtinR (x := w) pl.typeIs slot_tuple_getitem.lookup
    (getItem_tuple (j := j) (Q := fun r s' => r = w ∧ EP X pins σ Q r s') pl (by lia) (by lia) (by rw [List.size_toArray, ← hl]; exact h1) (by simpa using ew) ⟨rfl, fin⟩) hs
theorem ix_str : IxR X rIxS := by
  intro value slice pins s σ H x y v u Q I rx ry h hs
  obtain ⟨z, i, c, rfl, rfl, hz, he, q⟩ := h
  obtain ⟨t, rfl⟩ := rx
  obtain ⟨t', rfl⟩ := ry
  obtain ⟨j, h1, h2, h3, h4, h5⟩ := atI_get he
  have hl : z.cps.toList.length = z.length := by simp [Str.length]
  rw [hl] at h1 h4 h5
  have hn := line63
  exact tail_any (typeIs_str s z t) slot_str_getitem.lookup (getItem_str (c := c) (by
    have e1 : decide (i < -(2 ^ 63 : Int)) = false := decide_eq_false (by lia)
    have e2 : decide (i ≥ 2 ^ 63) = false := decide_eq_false (by lia)
    rw [e1, e2, Bool.or_false]) (by rw [h1]; simpa using h2) ⟨.str ⟨#[c]⟩, H, I.tok _, ⟨_, rfl⟩, q⟩) hs

/-! ### xs[i] = v, any sign -/

/-! ### slices -/
theorem slice_bounds (lo hi : Option Int) (n : Nat) : (sliceBounds lo hi none n).1 = ((HT.sIx n 0 lo : Nat) : Int) ∧ (sliceBounds lo hi none n).2.1 = ((HT.sIx n n hi : Nat) : Int) ∧ (sliceBounds lo hi none n).2.2 = 1 := by
  refine ⟨?_, ?_, rfl⟩
  · cases lo with
    | none => simp [sliceBounds, HT.sIx]
    | some i =>
      simp only [sliceBounds, HT.sIx, Option.getD_none, show (1 : Int) > 0 by decide, if_true]
      by_cases h : i < 0
      · simp only [h, if_true] <;> lia
      · simp only [h, if_false] <;> lia
  · cases hi with
    | none => simp [sliceBounds, HT.sIx]
    | some i =>
      simp only [sliceBounds, HT.sIx, Option.getD_none, show (1 : Int) > 0 by decide, if_true]
      by_cases h : i < 0
      · simp only [h, if_true] <;> lia
      · simp only [h, if_false] <;> lia
theorem slicePick_cut (its : List Value) (lo hi : Option Int) : slicePick its.toArray lo hi none = ((its.drop (HT.sIx its.length 0 lo)).take (HT.sIx its.length its.length hi - HT.sIx its.length 0 lo)).toArray := by
  obtain ⟨h1, h2, h3⟩ := slice_bounds lo hi its.toArray.size
  unfold slicePick
  rw [h1, h2, h3]
  simp only [sliceRange_one, pick_run, List.size_toArray] <;> rfl
/-- xs[lo:hi] of a list: a new list -/
noncomputable def rSlL (K : PySem.W.Frag) : V → Option Int → Option Int → Hp → VK → Prop := fun x lo hi H Q => ∃ a xs, x = .ref a ∧ SqL K H a xs ∧ ∀ p, H p = none → Q (.ref p) (upd H p (.lst (cutV xs lo hi)))
theorem sl_list : SlR X (rSlL X.K) := by
  intro pins s σ H x v vl vu lo hi sl Q I rx hs pl pu h
  obtain ⟨a, xs, rfl, hx, q⟩ := h
  cases rx
  obtain ⟨its, r, ht, hz⟩ := I.list hx
  have hlen := r.length
  refine ⟨"list", _, slot_list_getitem.lookup, ht.isList.typeIs, ?_⟩
  refine wpAny_getItem_list_slice ht.isList hs pl pu .none (by simp) ?_ (by rw [List.size_toArray] <;> lia)
  rw [slicePick_cut, ← hlen]
  refine ⟨.ref s.heap.objs.size, _, I.laid (t' := s.toks) (o := .lst (cutV xs lo hi)) (fun b ob q => Heap.get?_push_of_some _ q) (Nat.le_refl _) ?_, rfl, q _ (I.hok.fresh (Nat.le_refl _))⟩
  exact ⟨Nat.le_trans (cutV_length xs lo hi) hz, _, 0, (r.drop (HT.sIx xs.length 0 lo)).take (HT.sIx xs.length xs.length hi - HT.sIx xs.length 0 lo), Heap.get?_push_size _ rfl⟩

/-! ### in, not in: flat items -/

/-! ### len, list(x), tuple(x) of any list or tuple that is read -/
theorem call_len_seq : CallR X (.builtin "len") (fun xs H Q => ∃ p ys, xs = [.ref p] ∧ (SqL X.K H p ys ∨ SqT X.K H p ys) ∧ Q (.int ys.length) H) := by
  intro pins s σ H xs us Q I r h
  obtain ⟨p, ys, rfl, hq, q⟩ := h
  obtain ⟨u, rfl, rx⟩ := vals1 r
  cases rx
  have hn := line63
  rcases hq with hq | hq
  · obtain ⟨its, r', pl, hz⟩ := I.list hq
    have hlen := r'.length
    exact Calls.call_len_list pl.isList (by simp only [List.size_toArray] <;> lia) ⟨.int ys.length, H, I.tok _, ⟨s.toks + 1, by rw [List.size_toArray, hlen]⟩, q⟩
  · obtain ⟨its, r', pl, hz⟩ := I.tuple hq
    have hlen := r'.length
    exact len_tuple pl (by simp only [List.size_toArray] <;> lia) ⟨.int ys.length, H, I.tok _, ⟨s.toks + 1, by rw [List.size_toArray, hlen]⟩, q⟩
theorem call_len_str : CallR X (.builtin "len") (fun xs H Q => ∃ z, xs = [.str z] ∧ z.length ≤ sizeLine ∧ Q (.int z.length) H) := by
  intro pins s σ H xs us Q I r h
  obtain ⟨z, rfl, hz, q⟩ := h
  obtain ⟨u, rfl, t, rfl⟩ := vals1 r
  have hn := line63
  exact len_str (by lia) ⟨.int z.length, H, I.tok _, ⟨_, rfl⟩, q⟩
theorem call_list_of : CallR X (.type "list") (fun xs H Q => ∃ p ys, xs = [.ref p] ∧ (SqL X.K H p ys ∨ SqT X.K H p ys) ∧ ∀ l, H l = none → Q (.ref l) (upd H l (.lst ys))) := by
  intro pins s σ H xs us Q I r h
  obtain ⟨p, ys, rfl, hq, q⟩ := h
  obtain ⟨u, rfl, rx⟩ := vals1 r
  cases rx
  have fin : ∀ (its : List Value), Vals ys its → ys.length ≤ sizeLine → ∀ (h' : Heap) (c' : Nat), (∀ b o', s.heap.get? b = some o' → h'.get? b = some o') →
      h'.get? s.heap.objs.size = some { cls := .type "list", dict := none, data := .seq its.toArray c', slots := #[] } → EP X pins σ Q (.ref s.heap.objs.size) { s with heap := h' } := fun its r' hz h' c' kp e =>
    ⟨.ref s.heap.objs.size, _, I.laid (t' := s.toks) kp (Nat.le_refl _) (show ObjOk X.prog X.w _ h' _ (.lst ys) from ⟨hz, its, c', r', e⟩), rfl, q _ (I.hok.fresh (Nat.le_refl _))⟩
  rcases hq with hq | hq
  · obtain ⟨its, r', pl, hz⟩ := I.list hq
    have hlen := r'.length
    obtain ⟨o, ho, hc, n, hd⟩ := pl.isList
    exact call_list_seq p (.inl rfl) ho hc hd (fun h' c' kp e => fin its r' hz h' c' kp e) (by simp only [List.size_toArray] <;> lia)
  · obtain ⟨its, r', pl, hz⟩ := I.tuple hq
    have hlen := r'.length
    obtain ⟨o, ho, hc, n, hd⟩ := pl
    exact call_list_seq p (.inr rfl) ho hc hd (fun h' c' kp e => fin its r' hz h' c' kp e) (by simp only [List.size_toArray] <;> lia)

/-! ### the call of a builtin's method: o.m(..) -/
/-- the value is of that builtin type -/
noncomputable def tyV (K : PySem.W.Frag) (T : String) (x : V) (H : Hp) : Prop := match x with
  | .str _ => T = "str"
  | .int _ => T = "int"
  | .ref p => (T = "list" ∧ ∃ xs, SqL K H p xs) ∨ (T = "tuple" ∧ ∃ o, K.lookup p = some o ∧ o.cls = .type "tuple" ∧ o.dict = none) ∨
      (T = "dict" ∧ ((∃ kvs, H p = some (.dK kvs)) ∨ ∃ kvs, H p = some (.dT kvs))) ∨ (T = "set" ∧ ∃ S n, H p = some (.set S n))
  | _ => False
theorem tyV_is {pins : List (Addr × Obj)} {σ : St} {H : Hp} {s : Shared} {T : String} {x : V} {v : Value} (I : Inv X pins σ H s) (r : RelV x v) (ty : tyV X.K T x H) :
    s.TypeIs v T ∧ ∀ a, v = .ref a → ∃ ob, s.heap.get? a = some ob ∧ ob.dict = none := by
  cases x with
  | str z =>
    obtain ⟨t, rfl⟩ := r
    cases (show T = "str" from ty)
    exact ⟨typeIs_str s z t, fun _ e => nomatch e⟩
  | int i =>
    obtain ⟨t, rfl⟩ := r
    cases (show T = "int" from ty)
    exact ⟨typeIs_int s i t, fun _ e => nomatch e⟩
  | ref p =>
    cases r
    rcases ty with ⟨rfl, xs, hq⟩ | ⟨rfl, o, hk, hc, hd⟩ | ⟨rfl, hk⟩ | ⟨rfl, S, n, hk⟩
    · obtain ⟨its, _, pl, _⟩ := I.list hq
      refine ⟨pl.isList.typeIs, fun a e => ?_⟩
      cases e
      obtain ⟨o, n, e, c, hd, _⟩ := pl
      exact ⟨o, e, hd⟩
    · refine ⟨⟨o, I.kIn p o hk, hc⟩, fun a e => ?_⟩
      cases e
      exact ⟨o, I.kIn _ o hk, hd⟩
    · have z : ∃ o, s.heap.get? p = some o ∧ o.ExactDict := by
        rcases hk with ⟨kvs, hk⟩ | ⟨kvs, hk⟩
        · obtain ⟨_, _, _, _, o, _, _, e, ex, _⟩ := I.hok p _ hk
          exact ⟨o, e, ex⟩
        · obtain ⟨_, _, _, _, o, _, _, e, ex, _⟩ := I.hok p _ hk
          exact ⟨o, e, ex⟩
      obtain ⟨o, e, ex⟩ := z
      refine ⟨⟨o, e, ex.1⟩, fun a e2 => ?_⟩
      cases e2
      exact ⟨o, e, ex.2.1⟩
    · obtain ⟨o, _, _, _, e, ex, _⟩ := I.hok p _ hk
      refine ⟨⟨o, e, ex.1⟩, fun a e2 => ?_⟩
      cases e2
      exact ⟨o, e, ex.2.1⟩
  | _ => exact False.elim ty
noncomputable def tBM (K : PySem.W.Frag) (T : String) (r : V → List V → Hp → VK → Prop) (to : TE) (t : TA) : TE := fun σ H Q => to σ H fun x H1 => tyV K T x H1 ∧ t σ H1 fun xs H2 => r x xs H2 Q
variable {o e : Expr} {es : List Expr} {to : TE} {t : TA} {name : Str} {apos cpos : Pos} {T id : String} {r : V → List V → Hp → VK → Prop}
theorem pe_bm (pa : PlainAttrs T) (slot : Slot T name id) (hty : typeOf (.builtin id) = pure (.type "method_descriptor")) (hm : MtR X id r) (ho : PE X o to) (ha : PA X (e :: es) t)
    (hbase : attributeBase o name X.env (eval o X.env) = eval o X.env := by rfl)
    (hfew : ((backTo cpos (starEach (e :: es) X.env)).all (fun x => !x.1) && (backToKw cpos (keywordEach [] X.env)).all (fun x => x.1.isSome)
      && decide ((e :: es).length + ([] : List Keyword).length + (if ([] : List Keyword).isEmpty then 0 else 1) < 30)) = true := by rfl)
    (hline : (apos.endLine == cpos.line) = true := by rfl) (hs : starEach (e :: es) X.env = (false, eval e X.env) :: starEach es X.env := by rfl) (hplain : (backTo cpos (starEach es X.env)).any (·.1) = false := by rfl) :
    PE X (.Call (.Attribute o name apos) (e :: es) [] cpos) (tBM X.K T r to t) := by
  intro pins s σ H Q I h
  refine wpAny_Call_method_late hbase hfew hline rfl (thn (ho pins s σ H _ I h) fun v s1 ⟨x, H1, I1, r1, ty, q1⟩ => ?_)
  obtain ⟨h1, h2⟩ := tyV_is I1 r1 ty
  refine ⟨T, id, pa, slot, hty, h1, h2, ?_⟩
  have hA := ha cpos pins s1 σ H1 _ I1 q1
  rw [hs] at hA ⊢
  refine Calls.callWith_builtin (by show (false || (backTo cpos (starEach es X.env)).any (·.1)) = false; rw [hplain] <;> rfl) (Calls.evalArgs_plain ?_)
  exact thn hA fun us s2 ⟨vs, H2, I2, r2, q2⟩ => hm pins s2 σ H2 x vs v us Q I2 r1 r2 q2
/- xs.append(e), list.index on a module's tuple .. are MtR facts of 06m -/
end
end L2

namespace L2
open PySem PySem.Spec PyProof.Rows

noncomputable def MtM (X : Cx) (id : String) (r : V → List V → Hp → VK → Prop) : Prop :=
  ∀ (pins : List (Addr × Obj)) (s : Shared) (σ : St) (H : Hp) (x : V) (xs : List V) (v : Value) (us : List Value) (Q : VK), Inv X pins σ H s → RelV x v → Vals xs us → r x xs H Q →
    wpAny (model X.prog X.w) X.A (call (.builtin id) (v :: us)) (EP X pins σ Q) X.xe s

/-! ### lists of values -/
theorem Vals.uncons {x : V} {xs : List V} {us : List Value} (h : Vals (x :: xs) us) : ∃ u vs, us = u :: vs ∧ RelV x u ∧ Vals xs vs := by
  cases h with | cons r t => exact ⟨_, _, rfl, r, t⟩
theorem Vals.zero {us : List Value} (h : Vals [] us) : us = [] := by cases h; rfl
theorem Vals.one {x : V} {us : List Value} (h : Vals [x] us) : ∃ u, us = [u] ∧ RelV x u :=
  have ⟨u, _, e, r, t⟩ := h.uncons
  ⟨u, by rw [e, t.zero], r⟩
theorem Vals.two {x y : V} {us : List Value} (h : Vals [x, y] us) : ∃ u v, us = [u, v] ∧ RelV x u ∧ RelV y v :=
  have ⟨u, _, e, r, t⟩ := h.uncons
  have ⟨v, e', q⟩ := t.one
  ⟨u, v, by rw [e, e'], r, q⟩

section
variable {X : Cx} {pins : List (Addr × Obj)} {σ : St} {H : Hp} {s : Shared} {l b : Addr} {xs ys zs : List V}

/-! ### the two steps: a tracked list is rewritten, a new list is laid -/
theorem Inv.lset {its its' : List Value} {n : Nat} {f : Array Value → Array Value} {t' : Nat} (I : Inv X pins σ H s) (hH : H l = some (.lst xs))
    (e : s.heap.get? l = some { cls := .type "list", data := .seq its.toArray n }) (hf : f its.toArray = its'.toArray) (hv : Vals ys its') (hz : ys.length ≤ sizeLine) :
    Inv X pins σ (upd H l (.lst ys)) { s with heap := s.heap.update l (Obj.mapSeq f), toks := t' } := by
  have q := PySem.IsL.update e f
  rw [hf] at q
  refine I.write (x := l) (e := l) (by rw [hH]; exact trivial) (.inl rfl) (fun b' u hb hu => (Heap.get?_update_other s.heap (Obj.mapSeq f) (Ne.symm hb)).trans hu) ⟨_, q⟩ ?_
  exact ⟨hz, its', _, hv, q⟩
theorem Inv.lnew {its : List Value} {t' : Nat} (I : Inv X pins σ H s) (hv : Vals ys its) (hz : ys.length ≤ sizeLine) :
    Inv X pins σ (upd H s.heap.objs.size (.lst ys)) { s with heap := s.heap.push { cls := .type "list", data := .seq its.toArray }, toks := t' } :=
  I.laid (fun _ _ q => Heap.get?_push_of_some _ q) (Nat.le_refl _) ⟨hz, its, 0, hv, Heap.get?_push_size _ rfl⟩
theorem Inv.fresh (I : Inv X pins σ H s) : H s.heap.objs.size = none := I.hok.fresh (Nat.le_refl _)
theorem Inv.lstM (I : Inv X pins σ H s) (hH : H l = some (.lst xs)) : xs.length ≤ sizeLine ∧ ∃ (its : List Value) (n : Nat), Vals xs its ∧ xs.length = its.length ∧ s.heap.get? l = some { cls := .type "list", data := .seq its.toArray n } := by
  obtain ⟨z, its, n, r, e⟩ := I.hok l _ hH
  exact ⟨z, its, n, r, r.length, e⟩

theorem notLongL {n : Nat} (h : n ≤ sizeLine) : Builtin.List.listTooLong n = false := by
  unfold Builtin.List.listTooLong
  exact decide_eq_false (by lia)
end

section
variable {X : Cx}

/-! ### methods -/
noncomputable def rAppend : V → List V → Hp → VK → Prop := fun x vs H Q => ∃ l xs y, x = .ref l ∧ vs = [y] ∧ H l = some (.lst xs) ∧ xs.length < sizeLine ∧ Q .non (upd H l (.lst (xs ++ [y])))
theorem mt_append : MtM X "list.append" rAppend := by
  intro pins s σ H x vs v us Q I rx rv h
  obtain ⟨l, xs, y, rfl, rfl, hH, hz, q⟩ := h
  cases rx
  obtain ⟨u, rfl, ru⟩ := rv.one
  obtain ⟨z, its, n, r, hl, e⟩ := I.lstM hH
  refine call_meets F.slot_list_append ⟨_, e, rfl⟩ F.entry_list_append (F.args_list_append_2 _ _) (PySem.list_append l its.toArray n u (by rw [List.size_toArray]; lia)) ⟨e, ?_⟩
  refine ⟨.non, _, I.lset (its' := its ++ [u]) hH e (by simp) (r.append (.cons ru .nil)) ?_, rfl, q⟩
  rw [List.length_append, List.length_singleton]
  lia

noncomputable def rExtend : V → List V → Hp → VK → Prop := fun x vs H Q => ∃ l b xs zs, x = .ref l ∧ vs = [.ref b] ∧ H l = some (.lst xs) ∧ H b = some (.lst zs) ∧ xs.length + zs.length ≤ sizeLine ∧ Q .non (upd H l (.lst (xs ++ zs)))
theorem mt_extend : MtM X "list.extend" rExtend := by
  intro pins s σ H x vs v us Q I rx rv h
  obtain ⟨l, b, xs, zs, rfl, rfl, hH, hB, hz, q⟩ := h
  cases rx
  obtain ⟨u, rfl, ru⟩ := rv.one
  cases ru
  obtain ⟨z, its, n, r, hl, e⟩ := I.lstM hH
  obtain ⟨z2, its2, n2, r2, hl2, e2⟩ := I.lstM hB
  have hsz : its.toArray.size + its2.toArray.size ≤ sizeLine := by rw [List.size_toArray, List.size_toArray]; lia
  have hlong : ¬ (!its.toArray.isEmpty && Builtin.List.listTooLong (its.toArray.size + its2.toArray.size)) = true := by
    rw [notLongL hsz, Bool.and_false]
    exact Bool.false_ne_true
  refine call_meets F.slot_list_extend ⟨_, e, rfl⟩ F.entry_list_extend (F.args_list_extend_2 _ _)
    (AutoSeq1.list_extend_list_list_0 l its.toArray n b its2.toArray n2 hlong (by rw [List.size_toArray]; lia) (by lia)) ⟨e, e2, ?_⟩
  refine ⟨.non, _, I.lset (its' := its ++ its2) hH e (by simp) (r.append r2) ?_, rfl, q⟩
  rw [List.length_append]
  lia





/-! ### list + list, list += list, list * int -/

/-! ### del xs[i] -/
end

/-! ### xs[a:b] = ys -/
section
variable {prog : Program} {w : World} {A : Around} {E : Value → Shared → Prop} {s : Shared}
end

section
variable {X : Cx}
end
end L2

namespace Att
open PySem PySem.W PySem.Calls PyProof.Rows

/-! ### the script -/
theorem ints_of_wellAll {P : Params} {h : Heap} : ∀ (ns : List Int) (vs : List Value), WellAll P h vs (ns.map WData.int) → IntsAre vs ns := by
  intro ns
  induction ns with
  | nil =>
    intro vs w
    rw [List.map_nil] at w
    cases w
    exact .nil
  | cons n ns ih =>
    intro vs w
    rw [List.map_cons] at w
    cases w with
    | cons a b =>
      cases a
      exact .cons _ _ (ih _ b)

theorem script_of {l : OpenLaw} {n : Nat} (hn : l.most = some n) {P : Params} {h : Heap} {args : List WData} {vals : List Value}
    (hpre : l.row.toRowW.claim.pre args = true) (hwl : WellAll P h vals args) :
    ∃ a vs ns, vals = [Value.ref a] ∧ args = [WData.list (ns.map WData.int)] ∧ h.get? a = some { cls := .type "list", data := .seq vs.toArray } ∧ IntsAre vs ns ∧ ns.length ≤ n := by
  have hsh : WShape.hasAll [] args [.list .int] = true := (pre_splitW hpre).1
  have hc : l.pre.holds [] { args := args } = true := (pre_splitW hpre).2
  obtain ⟨d, r, rfl, h1, h2⟩ := hasAllW_cons hsh
  obtain rfl := hasAllW_nil h2
  obtain ⟨xs, rfl, h3⟩ := hasW_list h1
  obtain ⟨ns, rfl⟩ := items_int h3
  have hlen : ns.length ≤ n := by
    unfold OpenLaw.pre at hc
    have h4 : (WTm.not (.lt (.lit (.int (n : Int))) (.len (.arg 0)))).holds [] { args := [.list (ns.map .int)] } = true := by
      have h4 := (holds_andW hc).1
      rw [hn] at h4
      exact h4
    have h5 := condW_of h4 (w_not (w_lt w_lit (w_len_list (w_arg rfl))))
    rw [List.length_map] at h5
    refine Nat.le_of_not_lt fun q => ?_
    have q' : (n : Int) < ((ns.length : Nat) : Int) := by lia
    first
      | (rw [decide_eq_true q'] at h5; exact absurd h5 (by decide))
      | (simp at h5; lia)
  cases hwl with
  | cons w1 w2 =>
    cases w2
    cases w1 with
    | list ho hall => exact ⟨_, _, ns, rfl, rfl, ho, ints_of_wellAll ns _ hall, hlen⟩

theorem post_true (l : OpenLaw) (args : List WData) : l.row.toRowW.claim.post args (.bool true) args = true :=
  postW_of (r := l.row.toRowW) (X := (true == true))
    (show WShape.has [] (.bool true) .bool = true by first | rfl | decide | simp [WShape.has, WShape.arms, WShape.armsAll])
    (show (WTm.eq .res (.lit (.bool true))).value [] { args := args, res := some (.bool true), after := args } = some (.bool (true == true)) from w_eq_bool (w_res rfl) w_lit) rfl

/-! ### the attachment: holds_open's last premise (the goal 'hc' behind k_head) from a wpAny of the law's body -/

/-- the same from a codeAny of the CALL (for a layer whose function contracts speak of calls) -/
theorem attach_call {l : OpenLaw} {n : Nat} {q : Program} {loose : List Str} {XP : (Str → Option Value) → Heap → Prop} {YP : World → Heap → Prop} {d : DefRec}
    (hn : l.most = some n) (hdf : d.params.defaults = [])
    (call : ∀ (w : World) (s₀ s₁ : Shared) (mg mb : Str → Option Value) (fa : Addr) (o : Obj) (pm cd doc : Value) (a : Addr) (vs : List Value) (ns : List Int),
      Ground q loose [] XP w s₀ mg mb s₁.heap → YP w s₁.heap →
      s₁.heap.get? fa = some o → o.data = .func (docDef d.name d.params d.body d.scope pm cd doc) → s₁.heap.CodeRec cd d.name → mg d.name = some (.ref fa) →
      s₁.heap.get? a = some { cls := .type "list", data := .seq vs.toArray } → IntsAre vs ns → ns.length ≤ n → s₁.gens = #[] →
      codeAny (model l.prog w) callerA (.call (.ref fa) ⟨[.ref a], []⟩) (fun r s' => r = .ok (.ret (.bool true)) ∧ OldK s₁.heap s'.heap ∧ s'.os = s₁.os ∧ AllBare s'.gens) s₁) :
    WalkO q loose XP YP l.row.toRowW d [] (fun f vs => PySem.call f vs) := by
  intro w s₀ s₁ mg mb G Y fa o pm cd doc dV kV ho hd hcd hD hmg hg args vals as hpre hlay hrd hwl hlo
  obtain rfl : dV = .none := Dflts.none hD hdf
  obtain rfl : kV = .none := Dflts.noKw hD
  obtain ⟨a, vs, ns, rfl, rfl, hobj, hints, hlen⟩ := script_of hn hpre hwl
  refine enter_call (codeAny_mono (call w s₀ s₁ mg mb fa o pm cd doc a vs ns G Y ho (fd_plain hd) hcd hmg hobj hints hlen hg) fun r s' hq => ?_)
  obtain ⟨rfl, h2, h3, h4⟩ := hq
  exact ⟨.inl ⟨.bool true, .bool true, [], rfl, fun _ => rfl, .bool true, post_true l _, fun _ => ⟨List.Pairwise.nil, fun _ hm => (nomatch hm)⟩⟩, h2, h3, h4⟩


/-! ### rules over ANY heap (no ledger) from facts about the written part K: the library's own take a ledger (News) for what they write -/
section
variable {prog : Program} {w : World} {A : Around} {E : Value → Shared → Prop} {s : Shared} {K : Frag}





/-! the whole heap as the ledger: makes every rule that writes through a ledger a rule over any heap -/

end
end Att

namespace L2
open PySem PySem.Spec PyProof.Rows

theorem vals_ints : ∀ {vs : List Value} {ns : List Int}, IntsAre vs ns → Vals (ns.map V.int) vs
  | _, _, .nil => .nil
  | _, _, .cons n t h => .cons ⟨t, rfl⟩ (vals_ints h)

/-- nothing is tracked but the script, known to the object (or it is an object of the module) -/
noncomputable def Only (H : Hp) : Prop := ∀ b, H b = none ∨ ∃ o xs, H b = some (.frz o (.lst xs))

/-- THE HEAD: the law's promise, at the heap behind the top. F, the promise of the law's def, may use that base is part of the heap (so K.In base, base.Ns mainGlobals mg stand in Mod) -/
theorem law_call {P : Program} {w : World} {K : PySem.W.Frag} {mg mb : Str → Option Value} {CX : CXT} {k : Nat} {fa a : Addr} {fd : FuncData} {x : Str} {sp : Sp} {s₁ : Shared} {vs : List Value} {ns : List Int}
    (KX : K.In s₁.heap) (hns : s₁.heap.Ns mainGlobals mg) (hb : s₁.heap.Ns builtinsNs mb) (hbb : ∀ x : Str, x ≠ "__name__" → mb x = bootBuiltins x) (hlim : s₁.heap.NoLimit) (hg : s₁.gens = #[])
    (ha : s₁.heap.get? a = some { cls := .type "list", data := .seq vs.toArray }) (hi : IntsAre vs ns) (hl : ns.length ≤ sizeLine) (hr : Room k callerA)
    (F : ∀ base : Heap, K.In base → base.Ns mainGlobals mg → FnOk P w K mg base CX k fa fd [x] sp) (hbind : ∀ (s : Shared) (u : Value), BindsTo s fd ⟨[u], []⟩ [(x, u)])
    (hsp : ∀ H : Hp, Only H → SqL K H a (ns.map V.int) → sp [.ref a] H (fun v _ => v = .bl true) fun _ _ _ => False)
    (hCX : ∀ H e s', CX [] H s₁ (fun _ _ _ => False) e s' → False) :
    codeAny (model P w) callerA (.call (.ref fa) ⟨[.ref a], []⟩) (fun r s' => r = .ok (.ret (.bool true)) ∧ OldK s₁.heap s'.heap ∧ s'.os = s₁.os ∧ AllBare s'.gens) s₁ := by
  have rv := vals_ints hi
  have lenV := hi.length
  -- from an abstract heap in which nothing but the script may be tracked
  have core : ∀ H : Hp, Only H → SqL K H a (ns.map V.int) → HOk P w H s₁.heap → (∀ b, H b ≠ none → b = a) → (H a ≠ none → K.lookup a = none) →
      codeAny (model P w) callerA (.call (.ref fa) ⟨[.ref a], []⟩) (fun r s' => r = .ok (.ret (.bool true)) ∧ OldK s₁.heap s'.heap ∧ s'.os = s₁.os ∧ AllBare s'.gens) s₁ := by
    intro H hO hS hok hA hK
    have base_of : ∀ {b : Addr} {o : Obj}, s₁.heap.get? b = some o → H b = none → (hidT s₁.heap H).get? b = some o := fun e n => hidT_get e n
    have noA : ∀ {b : Addr} {o : Obj} {es : Array DictEntry} {ep : Nat}, s₁.heap.get? b = some o → o.data = .dict es ep → H b = none := fun {b o es ep} e d => by
      cases q : H b with
      | none => rfl
      | some u =>
        have e' : b = a := hA b (by rw [q]; simp)
        subst e'
        rw [ha] at e; cases e
        have d' : Data.seq vs.toArray _ = Data.dict es ep := d
        cases d'
    have nsK : ∀ {b : Addr} {m : Str → Option Value}, s₁.heap.Ns b m → (hidT s₁.heap H).Ns b m := fun {b m} ⟨o, es, ep, e, d, r⟩ => ⟨o, es, ep, base_of e (noA e d), d, r⟩
    have hKb : K.In (hidT s₁.heap H) := fun b o e => base_of (KX b o e) (by
      cases q : H b with
      | none => rfl
      | some u =>
        have e' : b = a := hA b (by rw [q]; simp)
        subst e'
        rw [hK (by rw [q]; simp)] at e; cases e)
    have hM : Mod K mg (hidT s₁.heap H) := ⟨hKb, nsK hns, ⟨mb, nsK hb, hbb⟩, let ⟨mc, h1, h2⟩ := hlim; ⟨mc, nsK h1, h2⟩⟩
    have e0 : Env0 P w K mg (hidT s₁.heap H) callerA [] s₁ H := ⟨rfl, hM, fun b o e => of_hidT e, Nat.le_of_eq (hidT_size _ _), trivial, fun b hb => absurd (show b ∈ ([] : List Addr) from hb) (by simp), hok, .of_eq hg⟩
    refine codeAny_mono ((F _ hKb (nsK hns)).run callerA [] s₁ H ⟨[.ref a], []⟩ [.ref a] [.ref a] _ _ hr e0 (hbind s₁ (.ref a)) (.cons rfl .nil) (hsp H hO hS)) fun r s' h => ?_
    cases r with
    | error e => exact (hCX H e s' h).elim
    | ok fl =>
      cases fl with
      | next => exact False.elim h
      | brk => exact False.elim h
      | cont => exact False.elim h
      | ret u =>
        obtain ⟨v, H', os, bare, un, hok', r', q⟩ := h
        have q' : v = .bl true := q
        subst q'
        obtain rfl : u = Value.bool true := r'
        refine ⟨rfl, OldK.of_keep fun b o e => ?_, os, bare⟩
        cases q : H b with
        | none => exact un.keep b o e q (by intro z; exact absurd (show b ∈ ([] : List Addr) from z) (by simp)) (by simp)
        | some u =>
          rcases hO b with z | ⟨ob, xs, z⟩
          · rw [q] at z; cases z
          · have z2 := un.frzs b ob _ z
            obtain ⟨e1, _⟩ := hok b _ z
            obtain ⟨e2, _⟩ := hok' b _ z2
            rw [e] at e1; cases e1
            exact e2
  cases hk : K.lookup a with
  | some o =>
    -- the script is one of the module's own objects
    have e := KX a o hk
    rw [ha] at e
    cases e
    refine core (fun _ => none) (fun _ => .inl rfl) (.inr ⟨_, vs.toArray, _, hk, rfl, rfl, rfl, by rw [List.size_toArray, lenV]; exact hl, by simpa using rv⟩) (fun b u z => by have z' : (none : Option HO) = some u := z; cases z') (fun b z => absurd rfl z) fun z => absurd rfl z
  | none =>
    refine core (fun b => if b = a then some (.frz { cls := .type "list", data := .seq vs.toArray } (.lst (ns.map V.int))) else none) (fun b => ?_) (.inl (.inr ⟨{ cls := .type "list", data := .seq vs.toArray }, if_pos rfl⟩)) (fun b u z => ?_) (fun b z => ?_) fun _ => hk
    · by_cases hb : b = a
      · exact .inr ⟨_, _, if_pos hb⟩
      · exact .inl (if_neg hb)
    · by_cases hb : b = a
      · have z' := (if_pos hb).symm.trans z
        cases z'
        subst hb
        exact ⟨ha, by rw [List.length_map]; exact hl, vs, _, rv, ha⟩
      · have z' := (if_neg hb).symm.trans z
        cases z'
    · by_cases hb : b = a
      · exact hb
      · exact absurd (if_neg hb) z
end L2

namespace L2
open PySem PySem.Spec PyProof.Rows

noncomputable abbrev KOf {K : PySem.W.Frag} {h : Heap} (_ : K.In h) : PySem.W.Frag := K

/-- the goal that k_head leaves (case hc), from the law's promise. F gives the function object fd (K's own) once, then the promise over every base -/
theorem walk_of {l : PySem.W.OpenLaw} {n k : Nat} {q : Program} {loose : List Str} {XP : (Str → Option Value) → Heap → Prop} {YP : World → Heap → Prop} {d : DefRec} {K : Params → PySem.W.Frag} {CX : World → CXT} {sp : World → Sp} {x : Str}
    (hn : l.most = some n) (hn2 : n ≤ sizeLine) (hdf : d.params.defaults = []) (hr : Room k callerA)
    (hY : ∀ (w : World) (h : Heap), YP w h → (K w.params).In h)
    (F : ∀ (w : World) (mg : Str → Option Value) (fa : Addr) (h : Heap), (K w.params).In h → h.Ns mainGlobals mg → mg d.name = some (.ref fa) →
      ∃ fd : FuncData, (∀ (s : Shared) (u : Value), BindsTo s fd ⟨[u], []⟩ [(x, u)]) ∧
        ∀ base : Heap, (K w.params).In base → base.Ns mainGlobals mg → FnOk l.prog w (K w.params) mg base (CX w) k fa fd [x] (sp w))
    (hsp : ∀ (w : World) (H : Hp) (a : Addr) (ns : List Int), ns.length ≤ n → Only H → SqL (K w.params) H a (ns.map V.int) → sp w [.ref a] H (fun v _ => v = .bl true) fun _ _ _ => False)
    (hCX : ∀ (w : World) (H : Hp) (s : Shared) (e : Value) (s' : Shared), CX w [] H s (fun _ _ _ => False) e s' → False) :
    PySem.W.WalkO q loose XP YP l.row.toRowW d [] (fun f vs => PySem.call f vs) := by
  refine Att.attach_call hn hdf fun w s₀ s₁ mg mb fa o pm cd doc a vs ns G Y ho hd hcd hmg hobj hints hlen hg => ?_
  have KX := hY w _ Y
  obtain ⟨fd, hb, hF⟩ := F w mg fa _ KX G.T.g hmg
  exact law_call KX G.T.g G.T.b G.T.builtins G.T.nolimit hg hobj hints (Nat.le_trans hlen hn2) hr hF hb (fun H hO hS => hsp w H a ns hlen hO hS) fun H e s' => hCX w H s₁ e s'
end L2

/- THE LAST THEOREM (shape; LID, My.* are yours):
   My.Adr: a structure of the addresses that your layer names (classes, functions); My.Txt K t: a structure (Prop) of the equations over K;
   My.txt_mk : {K} {implicit addresses ..} (e1 : nsIn K mainGlobals "law" = some (some (.ref f))) (e2 : K.lookup f = some ⟨oc, od, .func (fnOf "law" "law" params body scope dV kV doc pm an cdv ct), sl⟩) (e3 : codeIn K cdv "law" = true) .. : ∃ t, My.Txt K t

set_option maxRecDepth 100000 in
set_option maxHeartbeats 0 in
theorem PySem.Challenge.cw_LID_holds : PySem.Challenge.rw_LID.Holds := by
  w_on; o_law; k_head; (case hw => w_witness2)
  k_fill
  refine L2.walk_of (l := PySem.Challenge.rw_LID) (n := 63) (k := 40) (x := "script") (CX := fun w => ..) (sp := fun _ => My.sp_law) rfl (by decide) rfl ⟨rfl, by decide, by decide⟩ (fun w h Y => PySem.W.kIn_of Y) ?F ?S ?C
  case F =>
    intro w mg fa h KX G hmg
    have T : ∃ t, My.Txt (L2.KOf KX) t := by
      dsimp only [L2.KOf]                          -- K must stand as «<heap const> w.params» for k_is
      refine' My.txt_mk ?e1 ?e2 ?e3 ..
      (case e1 => PySem.W.k_is)                    -- in the order: a name -> its address -> its object -> its parts
      (case e2 => PySem.W.k_is)
      ..
    obtain ⟨t, T⟩ := T
    have e0 := hmg.symm.trans (PySem.W.mg_of KX G T.law)
    cases e0                                       -- fa is the law's own address
    exact ⟨_, fun s u => .of_eq rfl, fun base kb nb => My.law_fn T kb nb⟩     -- if «.of_eq rfl» comes too early: refine' ⟨_, ?b, fun base kb nb => My.law_fn T kb nb⟩; exact fun s u => .of_eq rfl
  case S => exact fun w H a ns hl hO hS => ..
  case C => exact ..
(the tactic k_is has no namespace: write k_is) -/

/-! SHORT WORDS over the layer: a def of the text, its body, what a loop and a test want. -/
namespace L2
open PySem PySem.Spec PyProof.Rows

/-! ### the text by places -/
noncomputable def defArgs (s : Stmt) : Arguments := match s with
  | .FunctionDef _ a _ _ _ _ _ _ _ _ => a
  | _ => { posonlyargs := [], args := [], vararg := none, kwonlyargs := [], kw_defaults := [], kwarg := none, defaults := [] }
noncomputable def defBody (s : Stmt) : List Stmt := match s with
  | .FunctionDef _ _ b _ _ _ _ _ _ _ => b
  | _ => []
noncomputable def defScope (s : Stmt) : Scope := match s with
  | .FunctionDef _ _ _ _ _ _ sc _ _ _ => sc
  | _ => { kind := .function, names := [], isGenerator := false, isCoroutine := false }

/-! ### no exception leaves a def -/
noncomputable abbrev E0 : XK := fun _ _ _ => False

/-! ### a def (or method) of the text as it stands behind the top -/
structure Fun (K : PySem.W.Frag) (x qual : Str) (st : Stmt) (f : Addr) (fd : FuncData) : Prop where
  ex : ∃ (oc : Value) (od : Option Addr) (kV doc pm : Value) (an : Option Addr) (cdv ct : Value) (osl : Array (Option Value)),
    fd = PySem.W.fnOf x qual (defArgs st) (defBody st) (defScope st) .none kV doc pm an cdv ct ∧ K.lookup f = some ⟨oc, od, .func fd, osl⟩ ∧ PySem.W.codeIn K cdv qual = true
  kp : PySem.W.keepIn K (.ref f) = true
section
variable {P : Program} {w : World} {K : PySem.W.Frag} {mg : Str → Option Value} {base : Heap}
/-- how its arguments bind (no defaults): h is «fun _ _ _ _ _ _ us hl => match us, hl with | [_, _], _ => rfl», one _ a parameter -/
theorem Fun.binds {x qual : Str} {st : Stmt} {f : Addr} {fd : FuncData} {ps : List Str} (F : Fun K x qual st f fd)
    (h : ∀ (kV doc pm : Value) (an : Option Addr) (cdv ct : Value) (us : List Value), us.length = ps.length → bindArgs (PySem.W.fnOf x qual (defArgs st) (defBody st) (defScope st) .none kV doc pm an cdv ct) ⟨us, []⟩ = pure (ps.zip us)) : Binds K fd ps [] := by
  obtain ⟨oc, od, kV, doc, pm, an, cdv, ct, osl, rfl, lk, hcd⟩ := F.ex
  exact .all (h kV doc pm an cdv ct)
theorem fun_mk {x qual : Str} {st : Stmt} {f : Addr} {oc : Value} {od an : Option Addr} {osl : Array (Option Value)} {kV doc pm cdv ct : Value} (l : K.lookup f = some ⟨oc, od, .func (PySem.W.fnOf x qual (defArgs st) (defBody st) (defScope st) .none kV doc pm an cdv ct), osl⟩)
    (c : PySem.W.codeIn K cdv qual = true) (k : PySem.W.keepIn K (.ref f) = true) : Fun K x qual st f (PySem.W.fnOf x qual (defArgs st) (defBody st) (defScope st) .none kV doc pm an cdv ct) := ⟨⟨oc, od, kV, doc, pm, an, cdv, ct, osl, rfl, l, c⟩, k⟩
end
theorem small1000 {n : Nat} (h : n ≤ 1000) : n < sizeLine := Nat.lt_of_le_of_lt h (by decide)

/-! ### expressions in short: the name that stands in the i-th slot -/
section
variable {X : Cx}
end

/-! ### tests -/
theorem iteF {A B : Prop} (h : B) : if false = true then A else B := by
  rw [if_neg Bool.false_ne_true]
  exact h
theorem iteT {A B : Prop} (h : A) : if true = true then A else B := by
  rw [if_pos rfl]
  exact h

/-! ### heaps -/
/-- all that was tracked is as it was -/
noncomputable def Same (H H' : Hp) : Prop := ∀ b o, H b = some o → H' b = some o
theorem Same.refl (H : Hp) : Same H H := fun _ _ h => h
theorem Same.trans {H H1 H2 : Hp} (a : Same H H1) (b : Same H1 H2) : Same H H2 := fun c o h => b c o (a c o h)

end L2

set_option Elab.async false
set_option linter.all false
set_option maxRecDepth 100000
set_option maxHeartbeats 4000000
/-! A list comprehension in the hand layer: one for over a Name, its tests, its element; names of the def that it reads are captured -/
namespace L2
open PySem PySem.Spec PyProof.Rows

/-! ### the captured cells -/
noncomputable def closL (cells : List (Str × Addr)) : List (Str × NameKind) → List (Str × Addr) → List (Str × Addr)
  | [], acc => acc
  | (n, k) :: r, acc => if k = .free then closL cells r ((n, (cells.lookup n).getD 0) :: acc) else closL cells r acc

theorem closL_mem {cells : List (Str × Addr)} : ∀ {names : List (Str × NameKind)} {acc : List (Str × Addr)} {x : Str} {c : Addr}, (x, c) ∈ closL cells names acc →
    (x, c) ∈ acc ∨ (c = (cells.lookup x).getD 0 ∧ (x, NameKind.free) ∈ names)
  | [], _, _, _, h => .inl h
  | (n, k) :: r, acc, x, c, h => by
    unfold closL at h
    split at h
    · rename_i hk
      rcases closL_mem h with z | ⟨z, w⟩
      · rcases List.mem_cons.mp z with e | e
        · cases e
          exact .inr ⟨rfl, by rw [hk]; exact List.mem_cons_self⟩
        · exact .inl e
      · exact .inr ⟨z, List.mem_cons_of_mem _ w⟩
    · rcases closL_mem h with z | ⟨z, w⟩
      · exact .inl z
      · exact .inr ⟨z, List.mem_cons_of_mem _ w⟩
theorem closL_acc {cells : List (Str × Addr)} : ∀ {names : List (Str × NameKind)} {acc : List (Str × Addr)} {p : Str × Addr}, p ∈ acc → p ∈ closL cells names acc
  | [], _, _, h => h
  | (n, k) :: r, acc, p, h => by
    unfold closL
    split
    · exact closL_acc (List.mem_cons_of_mem _ h)
    · exact closL_acc h
theorem closL_has {cells : List (Str × Addr)} : ∀ {names : List (Str × NameKind)} {acc : List (Str × Addr)} {x : Str}, (x, NameKind.free) ∈ names → (x, (cells.lookup x).getD 0) ∈ closL cells names acc
  | [], _, _, h => by simp at h
  | (n, k) :: r, acc, x, h => by
    unfold closL
    rcases List.mem_cons.mp h with e | e
    · cases e
      rw [if_pos rfl]
      exact closL_acc List.mem_cons_self
    · split
      · exact closL_has e
      · exact closL_has e
theorem lookup_of_mem {β : Type} {x : Str} : ∀ {l : List (Str × β)} {c : β}, (x, c) ∈ l → ∃ d, l.lookup x = some d ∧ (x, d) ∈ l
  | [], _, h => by simp at h
  | (n, d) :: r, c, h => by
    cases hx : x == n with
    | true =>
      have e : x = n := by simpa using hx
      subst e
      exact ⟨d, by simp [List.lookup_cons], List.mem_cons_self⟩
    | false =>
      rcases List.mem_cons.mp h with e | e
      · cases e; simp at hx
      · obtain ⟨d', h1, h2⟩ := lookup_of_mem e
        exact ⟨d', by simp only [List.lookup_cons, hx]; exact h1, List.mem_cons_of_mem _ h2⟩
theorem closL_lookup {cells : List (Str × Addr)} {names : List (Str × NameKind)} {x : Str} {c : Addr} (hs : ∀ y, (y, NameKind.free) ∈ names → ∃ d, cells.lookup y = some d) (h : (closL cells names []).lookup x = some c) :
    cells.lookup x = some c ∧ (x, NameKind.free) ∈ names := by
  rcases closL_mem (PySem.mem_of_lookup h) with z | ⟨z, w⟩
  · simp at z
  · obtain ⟨d, e⟩ := hs x w
    rw [e] at z
    exact ⟨by rw [e, z]; rfl, w⟩
theorem closL_some {cells : List (Str × Addr)} {names : List (Str × NameKind)} {x : Str} (hs : ∀ y, (y, NameKind.free) ∈ names → ∃ d, cells.lookup y = some d) (h : (x, NameKind.free) ∈ names) :
    ∃ c, (closL cells names []).lookup x = some c ∧ cells.lookup x = some c := by
  obtain ⟨d, h1, _⟩ := lookup_of_mem (closL_has (cells := cells) (acc := []) h)
  exact ⟨d, h1, (closL_lookup hs h1).1⟩

theorem closureFor_eq {scope : Scope} {env : Env} (hs : ∀ y, (y, NameKind.free) ∈ scope.names → ∃ d, env.cells.lookup y = some d) : closureFor scope env = pure (closL env.cells scope.names []) := by
  unfold closureFor
  have key : ∀ (names : List (Str × NameKind)) (acc : List (Str × Addr)), (∀ y, (y, NameKind.free) ∈ names → ∃ d, env.cells.lookup y = some d) →
      (forIn names acc fun x r => (match x with
        | (name, kind) => if (kind == NameKind.free) = true then do let c ← cellOf env name; pure (ForInStep.yield ((name, c) :: r)) else pure (ForInStep.yield r) : Sem (ForInStep (List (Str × Addr))))) = (pure (closL env.cells names acc) : Sem (List (Str × Addr))) := by
    intro names
    induction names with
    | nil => intro acc _; rfl
    | cons p r ih =>
      obtain ⟨n, k⟩ := p
      intro acc h
      have hr : ∀ y, (y, NameKind.free) ∈ r → ∃ d, env.cells.lookup y = some d := fun y hy => h y (List.mem_cons_of_mem _ hy)
      rw [List.forIn_cons]
      by_cases hk : k = .free
      · subst hk
        obtain ⟨d, e⟩ := h n List.mem_cons_self
        have ec : cellOf env n = pure d := by
          unfold cellOf
          rw [e]
        have e2 : closL env.cells ((n, NameKind.free) :: r) acc = closL env.cells r ((n, d) :: acc) := by
          show (if NameKind.free = NameKind.free then closL env.cells r ((n, (env.cells.lookup n).getD 0) :: acc) else closL env.cells r acc) = _
          rw [if_pos rfl, e]
          rfl
        rw [e2, ← ih ((n, d) :: acc) hr]
        simp only [beq_self_eq_true, if_true, ec, pure_bind]
      · have hb : (k == NameKind.free) = false := by simpa using hk
        have e2 : closL env.cells ((n, k) :: r) acc = closL env.cells r acc := by
          show (if k = NameKind.free then closL env.cells r ((n, (env.cells.lookup n).getD 0) :: acc) else closL env.cells r acc) = _
          rw [if_neg hk]
        rw [e2, ← ih acc hr]
        simp only [hb, Bool.false_eq_true, if_false, pure_bind]
  have k2 := key scope.names [] hs
  first
    | exact k2
    | (rw [k2]; rfl)
    | (simp only [pure_bind, bind_pure] at *; exact k2)

/-! ### the loop, with the step ahead of the store -/
section
variable {prog : Program} {w : World} {A : Around} {R : Result → Shared → Prop} {s : Shared}
theorem compLoop_go {elt target iter : Expr} {ifs : List Expr} {scope : Scope} {pos : Pos} {it acc : Value} {env : Env} (I : Nat → Shared → Prop)
    (turn : ∀ n s, I n s → wpAny (model prog w) A (pyNext it) (fun r s₁ => match r with
      | none => R (.ok .next) s₁
      | some v => wpAny (model prog w) A (letOwnedTupleGo target it v) (fun _ s₁' => wpAny (model prog w) A (assign target env v) (fun _ s₂ =>
          wpAny (model prog w) A (forIn ifs true fun c r => if r = true then do let ok ← isTrue c env (eval c env); pure (ForInStep.yield ok) else pure (ForInStep.yield r)) (fun ok s₃ =>
            if ok = true then wpAny (model prog w) A (eval elt env) (fun x s₄ =>
              wpAny (model prog w) A (call (.builtin "list.append") [acc, x]) (fun _ s₅ => ∃ m, m < n ∧ I m s₅) (fun _ _ => False) s₄) (fun _ _ => False) s₃
            else ∃ m, m < n ∧ I m s₃) (fun _ _ => False) s₂) (fun _ _ => False) s₁') (fun _ _ => False) s₁) (fun _ _ => False) s)
    (n : Nat) (h : I n s) :
    codeAny (model prog w) A (.compLoop (.ListComp elt [⟨target, iter, ifs, 0⟩] scope pos) 0 it acc env) R s := by
  refine codeAny_loop rfl I (fun n s hI => ?_) n h
  show wpAny _ A ((compTurn (.ListComp elt [⟨target, iter, ifs, 0⟩] scope pos) 0 it acc env).onRaise (fun x => do noteFrame x env; theTreesLotGoes x)) _ _ s
  refine wpAny_noted ?_
  rw [compTurn_list]
  refine wpAny_bind (wpAny_standAt (wpAny_bind (wpAny_mono (turn n s hI) (fun r s₁ h₁ => ?_) fun _ _ h' => h'.elim)))
  cases r with
  | none => exact wpAny_pure h₁
  | some v =>
    refine wpAny_bind (wpAny_mono h₁ (fun _ s₁' h₁' => ?_) fun _ _ h' => h'.elim)
    refine wpAny_bind (wpAny_mono h₁' (fun _ s₂ h₂ => wpAny_bind (wpAny_mono h₂ (fun ok s₃ h₃ => ?_) fun _ _ h' => h'.elim)) fun _ _ h' => h'.elim)
    cases ok with
    | false => exact wpAny_pure ⟨rfl, h₃⟩
    | true =>
      exact wpAny_bind (wpAny_bind (wpAny_mono h₃ (fun x s₄ h₄ => wpAny_bind (wpAny_mono h₄ (fun _ s₅ h₅ => wpAny_pure (wpAny_pure ⟨rfl, h₅⟩)) fun _ _ h' => h'.elim)) fun _ _ h' => h'.elim))
end

/-! ### the block's context -/
/-- what the block knows of the names: caps says which slot of the def each of its names is (none: its own) -/
noncomputable def capt (caps : List (Option Nat)) (σ : St) : St := caps.map fun o => match o with
  | none => none
  | some j => (σ[j]?).join
noncomputable abbrev blockEnv (X : Cx) (scope : Scope) (C : Addr) : Env := compEnvC scope (closL X.env.cells scope.names []) C X.env
noncomputable def blockCx (X : Cx) (N' : List Str) (scope : Scope) (C : Addr) (fp : List Addr) (s : Shared) (H : Hp) : Cx :=
  { prog := X.prog, w := X.w, K := X.K, mg := X.mg, base := X.base, A := X.A, N := N', s₀ := s, H₀ := H, env := blockEnv X scope C, outer := X.stack, stack := X.stack, ex := fp, fn := fun _ => false, calm := X.calm, pn := [], xe := fun _ _ => False }
/-- what is asked of the scope of a comprehension -/
structure CompScope (X : Cx) (N' : List Str) (caps : List (Option Nat)) (scope : Scope) : Prop where
  kind : scope.kind = .function
  nd : N'.Nodup
  len : caps.length = N'.length
  nocell : ∀ y ∈ scope.names, y.2 ≠ .cell
  loc : ∀ y ∈ scope.names, y.2 = .local → scope.names.lookup y.1 = some .local
  free : ∀ y ∈ scope.names, y.2 = .free → X.env.scope.names.lookup y.1 = some .cell ∨ X.env.scope.names.lookup y.1 = some .free
  nolocal : ∀ x, (x, NameKind.free) ∈ scope.names → scope.names.lookup x ≠ some .local
  cap : ∀ (i j : Nat), caps[i]? = some (some j) → ∃ x, N'[i]? = some x ∧ X.N[j]? = some x ∧ (x, NameKind.free) ∈ scope.names

theorem lookup_relabel {env : Env} {scope : Scope} {x : Str} {k : NameKind} (h : (relabel scope env).names.lookup x = some k) : ∃ k', (x, k') ∈ scope.names ∧ (k = k' ∨ (k' = .free ∧ k = .cell)) := by
  have m := PySem.mem_of_lookup h
  obtain ⟨⟨n, k'⟩, hm, e⟩ := List.mem_map.mp m
  dsimp only at e
  split at e
  · rename_i hc
    cases e
    have : k' = .free := by
      simp only [Bool.and_eq_true, beq_iff_eq] at hc
      exact hc.1.1
    exact ⟨k', hm, .inr ⟨this, rfl⟩⟩
  · cases e
    exact ⟨k, hm, .inl rfl⟩
section
variable {X : Cx} {N' : List Str} {caps : List (Option Nat)} {scope : Scope} {C : Addr} {fp : List Addr} {s : Shared} {H : Hp} {pins : List (Addr × Obj)} {σ : St}

theorem CompScope.cells (S : CompScope X N' caps scope) (ok : X.Ok) : ∀ y, (y, NameKind.free) ∈ scope.names → ∃ d, X.env.cells.lookup y = some d := fun y hy => ok.has y (S.free _ hy rfl)

theorem block_ok (S : CompScope X N' caps scope) (I : Inv X pins σ H s) (hf : ∀ b ∈ fp, FpOk X pins H b) (hC : s.heap.objs.size ≤ C) (hfb : ∀ b ∈ fp, b < s.heap.objs.size) : (blockCx X N' scope C fp s H).Ok := by
  have hcl := S.cells I.ok
  refine ⟨I.ok.mod, S.kind, I.ok.glob, I.ok.blt, hC, fun x y c h1 h2 => ?_, fun x hx => ?_, fun x c h _ => ?_, I.ok.hd, I.ok.frames, .inl rfl, fun b hb => ⟨?_, fun x c e => ?_⟩, I.bs, Nat.le_trans I.ok.bsz I.sz, fun b o e hb => ?_, fun b hb z => ?_, I.stack, I.stkFree⟩
  · exact I.ok.inj x y c (closL_lookup hcl h1).1 (closL_lookup hcl h2).1
  · have hx' : (relabel scope X.env).names.lookup x = some .cell ∨ (relabel scope X.env).names.lookup x = some .free := hx
    have hm : (x, NameKind.free) ∈ scope.names := by
      rcases hx' with q | q
      · obtain ⟨k', hm, e | ⟨e, _⟩⟩ := lookup_relabel q
        · exact absurd e.symm (S.nocell _ hm)
        · rw [← e]; exact hm
      · obtain ⟨k', hm, e | ⟨_, e⟩⟩ := lookup_relabel q
        · rw [e]; exact hm
        · cases e
    obtain ⟨c, e, _⟩ := closL_some hcl hm
    exact ⟨c, e⟩
  · cases h
  · exact Nat.ne_of_lt (Nat.lt_of_lt_of_le (hfb b hb) hC)
  · exact (hf b hb).2.2.2.2.1 x c (closL_lookup hcl e).1
  · rcases (hf b hb).2.2.2.1 with z | z
    · exact I.ok.noex b o e z
    · exact absurd (Nat.lt_of_lt_of_le (Heap.lt_size e) (Nat.le_trans I.ok.bsz z)) (Nat.lt_irrefl _)
  · rcases List.mem_cons.mp (I.stkSub b z) with e | e
    · exact (hf b hb).2.1 e
    · exact (hf b hb).2.2.1 e

/-- the block begins: a new namespace at C, all else as it was -/
theorem block_start (S : CompScope X N' caps scope) (I : Inv X pins σ H s) (hf : ∀ b ∈ fp, FpOk X pins H b) (hfb : ∀ b ∈ fp, b < s.heap.objs.size) {h₁ : Heap} {m : Str → Option Value} {tk : Nat} (hC : s.heap.objs.size ≤ C)
    (hn : h₁.Ns C m) (hk : ∀ b o, s.heap.get? b = some o → h₁.get? b = some o) : Inv (blockCx X N' scope C fp s H) [] (capt caps σ) H { s with heap := h₁, toks := tk } := by
  have hcl := S.cells I.ok
  refine ⟨block_ok S I hf hC hfb, rfl, I.bare, Un.kept hk, ⟨m, hn, fun i x v e1 e2 e3 => ?_⟩, fun x c e => ?_, I.hok.fresh hC, fun x c e => I.freeC x c (closL_lookup hcl e).1, fun p hp => absurd (show p ∈ ([] : List (Addr × Obj)) from hp) (by simp), I.hok.kept hk, ?_⟩
  · -- a captured name
    have e2' : (caps.map fun o => match o with | none => none | some j => (σ[j]?).join)[i]? = some (some v) := e2
    rw [List.getElem?_map] at e2'
    cases ec : caps[i]? with
    | none => rw [ec] at e2'; cases e2'
    | some o =>
      rw [ec] at e2'
      cases o with
      | none => cases e2'
      | some j =>
        have e4 : (σ[j]?).join = some v := Option.some.inj e2'
        have e5 : σ[j]? = some (some v) := by
          cases q : σ[j]? with
          | none => rw [q] at e4; cases e4
          | some u => rw [q] at e4; rw [← e4]; rfl
        obtain ⟨x', h1, h2, h3⟩ := S.cap i j ec
        have ex : x' = x := Option.some.inj (h1.symm.trans e1)
        subst ex
        obtain ⟨mo, hno, hl⟩ := I.loc
        have hvis : Vis X.env.scope x' := by
          rcases S.free _ h3 rfl with q | q
          · exact .inr (.inl q)
          · exact .inr (.inr q)
        obtain ⟨u, r, l⟩ := hl j x' v h2 e5 hvis
        refine ⟨u, r, .inr ?_⟩
        obtain ⟨c, c1, c2⟩ := closL_some hcl h3
        refine ⟨?_, c, c1, ?_⟩
        · rcases e3 with q | q
          · exfalso
            have q' : (relabel scope X.env).names.lookup x' = some .local := q
            obtain ⟨k', hm, e | ⟨_, e⟩⟩ := lookup_relabel q'
            · have q2 : (x', NameKind.local) ∈ scope.names := by rw [e]; exact hm
              have q3 := S.loc _ q2 rfl
              have q4 := lookup_relabel_local (env := X.env) q3
              -- the name would be both: its first entry is local
              obtain ⟨d, hd⟩ := I.ok.has x' (S.free _ h3 rfl)
              rcases l with ⟨l1, _⟩ | _
              · have l1' : X.env.scope.names.lookup x' = some .local := l1
                rcases S.free _ h3 rfl with z | z
                · rw [l1'] at z; cases z
                · rw [l1'] at z; cases z
              · exact absurd q3 (S.nolocal x' h3)
            · cases e
          · exact q
        · rcases l with ⟨l1, _⟩ | ⟨_, c', l2, l3⟩
          · exfalso
            have l1' : X.env.scope.names.lookup x' = some .local := l1
            rcases S.free _ h3 rfl with z | z
            · rw [l1'] at z; cases z
            · rw [l1'] at z; cases z
          · rw [c2] at l2
            cases l2
            obtain ⟨o, ho, hd⟩ := l3
            exact ⟨o, hk _ _ ho, hd⟩
  · obtain ⟨v, o, ho, hd⟩ := I.cell x c (closL_lookup hcl e).1
    exact ⟨v, o, hk _ _ ho, hd⟩
  · show (caps.map _).length = N'.length
    rw [List.length_map]
    exact S.len

/-- .. and ends -/
theorem block_end (S : CompScope X N' caps scope) (I : Inv X pins σ H s) (hf : ∀ b ∈ fp, FpOk X pins H b) {s' : Shared} {σ' : St} {H' : Hp} {ps : List (Addr × Obj)} (J : Inv (blockCx X N' scope C fp s H) ps σ' H' s') : Inv X pins σ H' s' := by
  refine I.call' (ch := fp) J.os J.base J.hok J.bare fun b hb => ?_
  obtain ⟨f1, f2, f3, f4, f5, f6⟩ := hf b hb
  exact ⟨f4, f2, f5, f6⟩
end

/-! ### the tests -/
noncomputable def PIfs (X : Cx) (ifs : List Expr) (t : TT) : Prop :=
  ∀ (pins : List (Addr × Obj)) (s : Shared) (σ : St) (H : Hp) (Q : Bool → Hp → Prop), Inv X pins σ H s → t σ H Q →
    wpAny (model X.prog X.w) X.A (forIn ifs true fun c r => if r = true then do let ok ← isTrue c X.env (eval c X.env); pure (ForInStep.yield ok) else pure (ForInStep.yield r)) (TP X pins σ Q) X.xe s
noncomputable def tYes : TT := fun _ H Q => Q true H
theorem pif_nil {X : Cx} : PIfs X [] tYes := fun _ _ _ H _ I h => wpAny_tests_nil ⟨H, I, h⟩
theorem pif_one {X : Cx} {c : Expr} {t : TT} (h : PT X c t) : PIfs X [c] t := fun pins s σ H Q I q => wpAny_tests_one (h pins s σ H Q I q)

/-! ### the rule -/
/-- W: what holds ahead of turn i, with a measure m, the items ys so far, the block's names, the heap (D holds ys) -/
noncomputable def tComp (wi : TI) (caps : List (Option Nat)) (g : TG) (tc : TT) (te : TE) : TE := fun σ H Q => wi σ H fun J H1 => ∀ D, H1 D = none →
  ∃ W : Nat → Nat → List V → St → Hp → Prop, (∃ m, W 0 m [] (capt caps σ) (upd H1 D (.lst []))) ∧ ∀ i m ys σ' H', W i m ys σ' H' → H' D = some (.lst ys) →
    (J.stop i H' ∧ Q (.ref D) H') ∨ (J.go i H' ∧ ys.length < sizeLine ∧ ∀ x H2, J.yld i H' x H2 → g x σ' H2 fun σ2 H3 => tc σ2 H3 fun b H4 =>
      if b = true then te σ2 H4 fun y H5 => H5 D = some (.lst ys) ∧ ∃ m', m' < m ∧ W (i + 1) m' (ys ++ [y]) σ2 (upd H5 D (.lst (ys ++ [y])))
      else H4 D = some (.lst ys) ∧ ∃ m', m' < m ∧ W (i + 1) m' ys σ2 H4)

section
variable {X : Cx} {N' : List Str} {caps : List (Option Nat)} {scope : Scope} {tg iter elt : Expr} {ifs : List Expr} {wi : TI} {g : TG} {tc : TT} {te : TE} {pos : Pos}

theorem comp_run (S : CompScope X N' caps scope) (hc : X.calm = true) (hg : ∀ C fp s H, PG (blockCx X N' scope C fp s H) tg g) (ht : ∀ C fp s H, PIfs (blockCx X N' scope C fp s H) ifs tc)
    (he : ∀ C fp s H, PE (blockCx X N' scope C fp s H) elt te) {pins : List (Addr × Obj)} {s2 : Shared} {σ : St} {H2 : Hp} {it : Addr} {fp : List Addr} {tn : Nat → Heap → Prop} {J : It} {Q : VK} {E : Value → Shared → Prop} {RR : Value → Addr → Result → Shared → Prop}
    (I2 : Inv X pins σ H2 s2) (T : Turn X.prog X.w X.K tg J fp it tn) (t0 : tn 0 s2.heap) (f2 : ∀ b ∈ fp, FpOk X pins H2 b)
    (h : ∀ D, H2 D = none → ∃ W : Nat → Nat → List V → St → Hp → Prop, (∃ m, W 0 m [] (capt caps σ) (upd H2 D (.lst []))) ∧ ∀ i m ys σ' H', W i m ys σ' H' → H' D = some (.lst ys) →
      (J.stop i H' ∧ Q (.ref D) H') ∨ (J.go i H' ∧ ys.length < sizeLine ∧ ∀ x H2, J.yld i H' x H2 → g x σ' H2 fun σ2 H3 => tc σ2 H3 fun b H4 =>
        if b = true then te σ2 H4 fun y H5 => H5 D = some (.lst ys) ∧ ∃ m', m' < m ∧ W (i + 1) m' (ys ++ [y]) σ2 (upd H5 D (.lst (ys ++ [y])))
        else H4 D = some (.lst ys) ∧ ∃ m', m' < m ∧ W (i + 1) m' ys σ2 H4))
    (hR : ∀ D C H' s', Inv X pins σ H' s' → FpOk X pins H' C → (∃ m, s'.heap.Ns C m) → Q (.ref D) H' → RR (.ref D) C (.ok .next) s') :
    wpAny (model X.prog X.w) X.A (newList []) (fun acc s₃ => wpAny (model X.prog X.w) X.A (newFunctionEnv scope X.env.globals (closL X.env.cells scope.names []) [] X.env.qual none .none (some X.env)) (fun cenv s₄ =>
      codeAny (model X.prog X.w) X.A (.compStart (.ListComp elt [⟨tg, iter, ifs, 0⟩] scope pos) 0 (.ref it) acc { cenv with scope := relabel scope X.env }) (RR acc cenv.locals) s₄) E s₃) E s2 := by
  have hfb : ∀ b ∈ fp, b < s2.heap.objs.size := fun b hb => by
    obtain ⟨o, e, _⟩ := T.obj _ _ t0 b hb
    exact Heap.lt_size e
  obtain ⟨W, ⟨m0, w0⟩, turn⟩ := h s2.heap.objs.size I2.fresh
  refine wpAny_newObj_type ?_
  have I3 : Inv X pins σ (upd H2 s2.heap.objs.size (.lst [])) { s2 with heap := s2.heap.push { cls := .type "list", dict := none, data := .seq ([] : List Value).toArray } } :=
    I2.lnew (its := []) (t' := s2.toks) .nil (Nat.zero_le _)
  generalize hs3 : ({ s2 with heap := s2.heap.push { cls := .type "list", dict := none, data := .seq ([] : List Value).toArray } } : Shared) = s3 at I3 ⊢
  have hsz3 : s3.heap.objs.size = s2.heap.objs.size + 1 := by rw [← hs3]; exact Heap.size_push _ _
  have hk23 : ∀ b o, s2.heap.get? b = some o → s3.heap.get? b = some o := fun b o e => by rw [← hs3]; exact Heap.get?_push_of_some _ e
  have hfb3 : ∀ b ∈ fp, b < s3.heap.objs.size := fun b hb => by rw [hsz3]; exact Nat.lt_succ_of_lt (hfb b hb)
  have f3 : ∀ b ∈ fp, FpOk X pins (upd H2 s2.heap.objs.size (.lst [])) b := fun b hb => by
    obtain ⟨f1, fr⟩ := f2 b hb
    exact ⟨by rw [upd_ne (Nat.ne_of_lt (hfb b hb))]; exact f1, fr⟩
  refine wpAny_newFunctionEnv S.nocell (by intro y hy; simp at hy) (fun h₁ hns₁ hsb₁ => ?_) S.kind
  have hk34 : ∀ b o, s3.heap.get? b = some o → h₁.get? b = some o := fun b o e => hsb₁.extBut b o (Nat.ne_of_lt (Heap.lt_size e)) (Heap.get?_push_of_some _ e)
  have I4 := block_start (C := s3.heap.objs.size) (tk := s3.toks + ([] : List (Str × Value)).length) S I3 f3 hfb3 (Nat.le_refl _) hns₁ hk34
  have t4 : tn 0 h₁ := T.keep _ _ _ t0 fun b hb o e => hk34 b o (hk23 b o e)
  have fr4 : ∀ b ∈ fp, (upd H2 s2.heap.objs.size (.lst [])) b = none := fun b hb => (f3 b hb).1
  have hD4 : (upd H2 s2.heap.objs.size (.lst [])) s2.heap.objs.size = some (.lst []) := upd_same
  generalize hH3 : upd H2 s2.heap.objs.size (.lst []) = H3 at *
  generalize hDa : s2.heap.objs.size = D at *
  have hok4 := I4.ok
  have stat : ∀ {H' : Hp}, (∀ b ∈ fp, H' b = none) → ∀ b ∈ fp, FpOk (blockCx X N' scope s3.heap.objs.size fp s3 H3) [] H' b := fun hn b hb =>
    ⟨hn b hb, (hok4.exf b hb).1, hok4.exfs b hb, .inl hb, (hok4.exf b hb).2, fun p hp => absurd (show p ∈ ([] : List (Addr × Obj)) from hp) (by simp)⟩
  have loop : codeAny (model X.prog X.w) X.A (.compLoop (.ListComp elt [⟨tg, iter, ifs, 0⟩] scope pos) 0 (.ref it) (.ref D) (blockEnv X scope s3.heap.objs.size)) (RR (.ref D) s3.heap.objs.size)
      { s3 with heap := h₁, toks := s3.toks + ([] : List (Str × Value)).length } := by
    refine compLoop_go (fun n s' => ∃ i ys σ' H', Inv (blockCx X N' scope s3.heap.objs.size fp s3 H3) [] σ' H' s' ∧ tn i s'.heap ∧ (∀ b ∈ fp, H' b = none) ∧ H' D = some (.lst ys) ∧ W i n ys σ' H') ?_ m0 ⟨0, [], capt caps σ, H3, I4, t4, fr4, hD4, w0⟩
    rintro n s' ⟨i, ys, σ', H', I', t', fr', hD', w'⟩
    rcases turn i n ys σ' H' w' hD' with ⟨stop, q⟩ | ⟨go, hlt, step⟩
    · refine thn (T.done (blockCx X N' scope s3.heap.objs.size fp s3 H3) rfl rfl rfl hc i [] s' σ' H' _ I' (stat fr') t' stop) fun r s1 ⟨hr, I1⟩ => ?_
      subst hr
      obtain ⟨m, hn, _⟩ := I1.loc
      exact hR D _ H' s1 (block_end S I3 f3 I1) (I3.fpOk (Nat.le_refl _) I1.free) ⟨m, hn⟩ q
    · refine thn (T.item (blockCx X N' scope s3.heap.objs.size fp s3 H3) rfl rfl rfl hc i [] s' σ' H' _ I' (stat fr') t' go) fun r s1 ⟨u, hr, h4⟩ => ?_
      subst hr
      refine thn h4 fun _ s5 ⟨x, H5, I5, r5, y5, st5, fr5⟩ => ?_
      have I5' := I5.pinned (stat fr5) (T.obj _ _ st5)
      refine thn (hg _ _ _ _ _ s5 σ' H5 x u _ I5' r5 (step x H5 y5)) fun _ s6 ⟨σ6, H6, I6, q6⟩ => ?_
      have again : ∀ {s7 : Shared} {σ7 : St} {H7 : Hp} {zs : List V}, Inv (blockCx X N' scope s3.heap.objs.size fp s3 H3) ([] ++ pinsAt fp s5.heap) σ7 H7 s7 → H7 D = some (.lst zs) → (∃ m', m' < n ∧ W (i + 1) m' zs σ7 H7) →
          ∃ m, m < n ∧ ∃ i ys σ' H', Inv (blockCx X N' scope s3.heap.objs.size fp s3 H3) [] σ' H' s7 ∧ tn i s7.heap ∧ (∀ b ∈ fp, H' b = none) ∧ H' D = some (.lst ys) ∧ W i m ys σ' H' := fun {s7 σ7 H7 zs} I7 hD7 ⟨m', hm, w7⟩ => by
        refine ⟨m', hm, i + 1, zs, σ7, H7, I7.unpinned, T.keep _ _ _ st5 fun b hb o e => (I7.pin (b, o) (List.mem_append_right _ (List.mem_append_right _ (mem_pinsAt hb e)))).1, fun b hb => ?_, hD7, w7⟩
        obtain ⟨o, e, d⟩ := T.obj _ _ st5 b hb
        exact (I7.pin (b, o) (List.mem_append_right _ (List.mem_append_right _ (mem_pinsAt hb e)))).2.1
      refine thn (ht _ _ _ _ _ s6 σ6 H6 _ I6 q6) fun b s7 ⟨H7, I7, q7⟩ => ?_
      cases b with
      | false =>
        rw [if_neg Bool.false_ne_true] at q7 ⊢
        exact again I7 q7.1 q7.2
      | true =>
        rw [if_pos rfl] at q7 ⊢
        refine thn (he _ _ _ _ _ s7 σ6 H7 _ I7 q7) fun y s8 ⟨yv, H8, I8, r8, hD8, q8⟩ => ?_
        refine thn (mt_append _ s8 σ6 H8 (.ref D) [yv] (.ref D) [y] (fun _ H9 => H9 = upd H8 D (.lst (ys ++ [yv]))) I8 rfl (.cons r8 .nil) ⟨D, ys, yv, rfl, rfl, hD8, hlt, rfl⟩) fun _ s9 ⟨_, H9, I9, _, e9⟩ => ?_
        subst e9
        exact again I9 upd_same q8
  exact codeAny_compStart_list loop (T.self _ 0 _ _ _ t4 loop)

/-- [elt for x in iter if ..] as a value -/
theorem pe_comp (S : CompScope X N' caps scope) (hc : X.calm = true) (hi : PI X tg iter wi) (hg : ∀ C fp s H, PG (blockCx X N' scope C fp s H) tg g) (ht : ∀ C fp s H, PIfs (blockCx X N' scope C fp s H) ifs tc)
    (he : ∀ C fp s H, PE (blockCx X N' scope C fp s H) elt te) (hs : ∀ x, foldedSetIterable iter X.env x = pure x := by intro _; rfl) : PE X (.ListComp elt [⟨tg, iter, ifs, 0⟩] scope pos) (tComp wi caps g tc te) := by
  intro pins s σ H Q I h
  rw [eval_ListComp]
  refine wpAny_comprehension_free (use := none) rfl hs (closureFor_eq (S.cells I.ok)) S.kind S.loc (thn (hi pins s σ H _ I h) fun v s1 h1 => thn h1 fun itv s2 h2 => ?_)
  obtain ⟨it, fp, tn, J, H2, e, I2, T, st2, f2, hW⟩ := h2
  subst e
  refine comp_run (Q := Q) (RR := fun acc C => compPost (model X.prog X.w) X.A X.xe none (EP X pins σ Q) acc C) S hc hg ht he I2 T st2 f2 hW ?_
  rintro D C H' s' J' fC ⟨m, hn⟩ q
  refine ⟨m, hn, fun h' hsb => ⟨.ref D, H', ?_, rfl, q⟩⟩
  obtain ⟨c1, c2, c3, c4, c5, c6⟩ := fC
  exact J'.turned (t' := s'.toks) (it := C) (fun b o hb e => hsb.extBut b o hb e) c1 c2 c4 c5 c6

/-- y = [elt for x in iter if ..] -/
theorem ps_setComp {i : Nat} {y : Str} {py spos : Pos} (hN : X.N.Nodup) (hi0 : X.N[i]? = some y) (hx : Loc X.env.scope y) (S : CompScope X N' caps scope) (hc : X.calm = true) (hi : PI X tg iter wi) (hg : ∀ C fp s H, PG (blockCx X N' scope C fp s H) tg g)
    (ht : ∀ C fp s H, PIfs (blockCx X N' scope C fp s H) ifs tc) (he : ∀ C fp s H, PE (blockCx X N' scope C fp s H) elt te)
    (hsw : swapsWith (.ListComp elt [⟨tg, iter, ifs, 0⟩] scope pos) (some (.Name y py)) spos.line X.env = pure true := by rfl)
    (hs : ∀ x, foldedSetIterable iter X.env x = pure x := by intro _; rfl) (hf : X.fn y = true ∨ X.env.scope.names.lookup y = some .local := by first | exact .inl rfl | exact .inr rfl | assumption) :
    PS X (.Assign [.Name y py] (.ListComp elt [⟨tg, iter, ifs, 0⟩] scope pos) spos) (tAsg (tComp wi caps g tc te) (gName i)) := by
  intro pins s σ H D0 I h
  rw [exec_Assign_Name_used _ _ _ _ hsw]
  refine wpAny_bind (wpAny_standAt (wpAny_bind ?_))
  show wpAny _ X.A (do let _ ← comprehension (.ListComp elt [⟨tg, iter, ifs, 0⟩] scope pos) scope X.env _ (newList []) false (eval iter X.env) (some (assign (.Name y py) X.env))) _ _ s
  refine wpAny_bind (wpAny_mono (wpAny_comprehension_free (use := some (assign (.Name y py) X.env)) (Q := fun _ s' => SP X pins D0 .next s') rfl hs (closureFor_eq (S.cells I.ok)) S.kind S.loc
    (thn (hi pins s σ H _ I h) fun v s1 h1 => thn h1 fun itv s2 h2 => ?_)) (fun _ s' hq => wpAny_pure (wpAny_pure hq)) fun _ _ e => e)
  obtain ⟨it, fp, tn, J, H2, e, I2, T, st2, f2, hW⟩ := h2
  subst e
  refine comp_run (Q := fun v H' => gName i v σ H' D0.nx) (RR := fun acc C => compPost (model X.prog X.w) X.A X.xe (some (assign (.Name y py) X.env)) (fun _ s' => SP X pins D0 .next s') acc C) S hc hg ht he I2 T st2 f2 hW ?_
  rintro D C H' s' J' fC ⟨m, hn⟩ q
  show wpAny _ X.A (assign (.Name y py) X.env (.ref D)) _ _ _
  obtain ⟨c1, c2, c3, c4, c5, c6⟩ := fC
  refine wpAny_assign_Name (store_ok2 (v := .ref D) J' hN hi0 hx rfl (fun s'' I'' hk => ?_) hf)
  obtain ⟨a, hsa, ha⟩ := hk
  have hCa : C ≠ a := by
    rcases ha with z | z
    · rw [z]; exact c2
    · exact fun q => c5 y a z q.symm
  refine ⟨m, hn.sameBut hsa hCa, fun h' hsb => ⟨_, H', ?_, q⟩⟩
  exact I''.turned (t' := s''.toks) (it := C) (fun b o hb e => hsb.extBut b o hb e) c1 c2 c4 c5 c6
end
end L2

set_option Elab.async false
set_option linter.all false
set_option maxRecDepth 100000
set_option maxHeartbeats 4000000
namespace L2
open PySem PySem.Spec PySem.W PySem.Calls PyProof.Rows Builtin Builtin.ObjectAttr Builtin.Getset_descriptor
/-! ### an exception of a class of the text: its class by isinstance -/
structure ExcCls (K : PySem.W.Frag) (C : Addr) : Prop where
  ga : findIn K (.ref C) "__getattribute__" = some (some (.builtin "BaseException.__getattribute__"))
  gt : findIn K (.ref C) "__getattr__" = some none
  cl : findIn K (.ref C) "__class__" = some (some (.builtin "object.__class__"))
  mB : mroIn K C (.type "BaseException") = some true
  mO : mroIn K C (.type "object") = some true
  is : isClsIn K C = true
noncomputable def ExcAt (e C : Addr) (h : Heap) : Prop := ∃ o vs, h.get? e = some o ∧ o.cls = .ref C ∧ o.data = .fields vs
section
variable {prog : Program} {w : World} {A : Around} {E : Value → Shared → Prop} {h : Heap} {g : Array GenState} {d : Drawn} {t : Nat} {os : OsState} {a C : Addr} {K : PySem.W.Frag}
theorem ExcAt.type {M : Model} (p : ExcAt a C h) : Looks M h (typeOf (.ref a)) (.ref C) := by
  obtain ⟨o, vs, h1, h2, h3⟩ := p
  exact h2 ▸ (Looks.ld h1).andThen .now
/-- the class by its descriptor, whatever the object's own dict is -/
theorem cls_get {R : Result → Shared → Prop} {tp : Value} (X : K.In h) (p : ExcAt a C h) (hm : mroIn K C (.type "object") = some true) (hq : R (.ok (.ret (.ref C))) ⟨h, g, d, t, os⟩) :
    codeAny (model prog w) A (.call (.builtin "getset_descriptor.__get__") ⟨[.builtin "object.__class__", .ref a, tp], []⟩) R ⟨h, g, d, t, os⟩ := by
  have L0 := p.type (M := model prog w)
  have L1 := looks_mroIn (M := model prog w) X hm
  refine codeAny_call_builtin KF.slot_gs.plain KF.entry_gs (KF.slot_gs.check _ _ _ _ _ _ _ _ KF.type_class (KF.args_gs _ _ _) ?_)
  unfold Builtin.«getset_descriptor.__get__» descrGet; rw [dga_obj]; refine wpAny_bind (wpAny_pure ?_)
  unfold descrGetter descrCheckInstance descrNameAndClass isInstance; simp only [KF.owner_class]; repeat lk
  refine ⟨Code.quiet_builtin _ (by decide +kernel), codeAny_builtin KF.entry_class ?_⟩; unfold Builtin.«object.__class__» shownTypeOf; repeat lk
  exact hq
theorem exc_entry {tk : Tok} {Q : Fin → Shared → Prop} (X : K.In h) (c : ExcCls K C) (p : ExcAt a C h) (hq : Q (.done (.ret (.ref C))) ⟨h, g, d, t, os⟩) :
    wpAny (model prog w) A (Builtin.«object.__getattribute__» ⟨[.ref a, .str "__class__" tk], []⟩) Q E ⟨h, g, d, t, os⟩ := by
  have hT5 : (⟨h, g, d, t, os⟩ : Shared).TypeIs (.builtin "object.__class__") "getset_descriptor" := F.typeOf_object_class
  have f5 := F.typeOf_object_class
  have f6 := F.slot_gs_get.lookup
  have f7 := F.slot_gs_set.lookup
  have L0 := p.type (M := model prog w)
  have L1 := looks_findIn (M := model prog w) X c.cl
  repeat (any_goals (first | assumption | (with_reducible refine Looks.at (by assumption) ?_) | wp_step))
  refine cls_get X p c.mO ?_
  repeat (any_goals (first | assumption | wp_step))
theorem exc_check {M : Model} {nameV : Value} {Q : Unit → Shared → Prop} (X : K.In h) (c : ExcCls K C) (p : ExcAt a C h) (hq : Q () ⟨h, g, d, t, os⟩) : wpAny M A (checkBuiltinCall "BaseException.__getattribute__" ⟨[.ref a, nameV], []⟩) Q E ⟨h, g, d, t, os⟩ := by
  have hk : builtinKind "BaseException.__getattribute__" = some .slot := by decide +kernel
  have hsplit : splitId "BaseException.__getattribute__" = some ("BaseException", "__getattribute__") := by decide +kernel
  have ha := F.args_bexc_ga (.ref a) nameV
  have L0 := p.type (M := M)
  have L1 := looks_mroIn (M := M) X c.mB
  simp only [checkBuiltinCall, hk, hsplit]
  refine wpAny_bind ?_
  · unfold isInstance
    repeat (first | (with_reducible refine Looks.at (by assumption) ?_) | wp_step)
    exact hq
theorem exc_by {tk : Tok} {Q : Value → Shared → Prop} (X : K.In h) (c : ExcCls K C) (p : ExcAt a C h) (hq : Q (.ref C) ⟨h, g, d, t, os⟩) : wpAny (model prog w) A (getAttrBy (.ref a) (.str "__class__" tk) false) Q E ⟨h, g, d, t, os⟩ := by
  have f3 := F.attr_ValueError.ga.bind (.ref a)
  have hx0 : (false && onTheHeap (Value.builtin "BaseException.__getattribute__")) = false := rfl
  have hx2 : (Value.builtin "BaseException.__getattribute__" == Value.builtin "object.__getattribute__") = false := by decide +kernel
  have hx1 : (onTheHeap (Value.ref C) && Value.builtin "BaseException.__getattribute__" == Value.builtin "object.__getattribute__") = false := by rw [hx2]; rfl
  have L0 := p.type (M := model prog w)
  have L1 := looks_findIn (M := model prog w) X c.ga
  have L2 := looks_findIn (M := model prog w) X c.gt
  repeat (any_goals (first | assumption | (with_reducible refine Looks.at (by assumption) ?_) | wp_step))
  refine codeAny_call_builtin F.attr_ValueError.ga.plain F.entry_bexc_ga (exc_check X c p (exc_entry X c p ?_))
  repeat (any_goals (first | assumption | wp_step))
theorem exc_class {Q : Option Value → Shared → Prop} (X : K.In h) (c : ExcCls K C) (p : ExcAt a C h) (hq : Q (some (.ref C)) ⟨h, g, d, t + 1, os⟩) : wpAny (model prog w) A (getAttr? (.ref a) "__class__") Q E ⟨h, g, d, t, os⟩ := by
  unfold getAttr? getAttrBy?
  repeat (any_goals (first | assumption | with_reducible apply exc_by X c p | wp_step))
theorem kitx_exc (c : ExcCls K C) : KitX K (.ref a) (.ref C) (ExcAt a C) where
  ty := fun _ _ _ p => p.type
  it := fun _ _ X _ => by
    have hc := c.is
    unfold isClsIn clsIn at hc
    split at hc
    · rename_i c' d' cd' sl' ho
      intro A' Q' E' s' k q
      unfold isType loadHead
      exact wpAny_bind (wpAny_loadPart (k _ _ (X _ _ ho)) (wpAny_pure q))
    · cases hc
  ne := fun h tp dd its n sl X htp => by
    have hc := c.is
    refine Bool.eq_false_iff.mpr fun q => ?_
    have e : C = tp := Value.ref.inj (beq_iff_eq.mp q)
    subst e
    unfold isClsIn clsIn at hc
    split at hc
    · rename_i c' d' cd' sl' ho
      have z := (X _ _ ho).symm.trans htp
      cases z
    · cases hc
  ca := fun {prog w A E Q s} X p k => by
    obtain ⟨h, g, d, t, os⟩ := s
    exact exc_class X c p k
end
end L2

set_option Elab.async false
set_option linter.all false
set_option maxRecDepth 100000
set_option maxHeartbeats 4000000
/-! Exceptions of the text's own classes in the hand layer: raised, passed on by frames, caught by a try round one call -/
namespace L2
open PySem PySem.Spec PyProof.Rows

theorem ObjOk.there {P : Program} {w : World} {H : Hp} {h : Heap} {a : Addr} {o : HO} (x : ObjOk P w H h a o) : ∃ ob, h.get? a = some ob := by
  cases o with
  | lst xs => obtain ⟨_, _, _, _, e⟩ := x; exact ⟨_, e⟩
  | tup xs => obtain ⟨_, _, _, ob, e, _⟩ := x; exact ⟨_, e⟩
  | dK kvs => obtain ⟨_, _, _, _, o, _, _, e, _⟩ := x; exact ⟨_, e⟩
  | dT kvs => obtain ⟨_, _, _, _, o, _, _, e, _⟩ := x; exact ⟨_, e⟩
  | set S n => obtain ⟨o, _, _, _, e, _⟩ := x; exact ⟨_, e⟩
  | ins C dx fs => obtain ⟨_, _, _, e, _⟩ := x; exact ⟨_, e⟩
  | own y => exact x
  | xd fs => obtain ⟨_, ⟨_, _, _, e, _⟩, _⟩ := x; exact ⟨_, e⟩
  | rng lo hi => obtain ⟨_, _, _, e⟩ := x; exact ⟨_, e⟩
  | frz ob u => obtain ⟨e, _⟩ := x; exact ⟨_, e⟩
  | tbl ps => exact ⟨_, (show h.get? a = some _ from x)⟩
  | met f y => exact ⟨_, (show h.get? a = some _ from x)⟩
  | ext φ => obtain ⟨_, e, _⟩ := x; exact e
theorem HOk.none_of {P : Program} {w : World} {H : Hp} {h : Heap} {a : Addr} (x : HOk P w H h) (e : h.get? a = none) : H a = none := by
  cases q : H a with
  | none => rfl
  | some o =>
    obtain ⟨ob, z⟩ := (x a o q).there
    rw [e] at z; cases z

/-! ### an exception in flight -/
noncomputable def Flies (x C T : Addr) (h : Heap) : Prop :=
  ∃ oe vs oT ts a0, h.get? x = some oe ∧ oe.cls = .ref C ∧ vs[0]? = some a0 ∧ oe.data = .fields vs ∧ vs[1]? = some (.ref T) ∧ T ≠ x ∧ h.get? T = some oT ∧ oT.data = .fields ts ∧ ts[3]? = some Value.none
theorem Flies.at {x C T : Addr} {h : Heap} (f : Flies x C T h) : ExcAt x C h := by
  obtain ⟨oe, vs, oT, ts, a0, h1, h2, h3, h4, _⟩ := f
  exact ⟨oe, vs, h1, h2, h4⟩
theorem Flies.of {base h : Heap} {l : List Env} {x C : Addr} {a0 : Value} (f : Heap.FlyingW base l x (.ref C) a0 h) : ∃ T, Flies x C T h ∧ base.get? T = none := by
  obtain ⟨_, _, _, oe, vs, T, oT, ts, h1, ⟨h2, h3⟩, h4, h5, h6, h7, h8, h9, h10⟩ := f
  exact ⟨T, ⟨oe, vs, oT, ts, a0, h1, h2, h3, h4, h5, h7, h8, h9, h10⟩, h6⟩
theorem mem_frs {l : List Env} {env : Env} {a : Addr} (he : env ∈ l) (ha : env.frame = some a) : a ∈ frs l := List.mem_filterMap.mpr ⟨env, he, ha⟩
theorem Flies.fly {base h : Heap} {l : List Env} {x C T : Addr} (f : Flies x C T h) (fr : h.FunFrames base l) : ∃ a0, Heap.FlyingW (PySem.W.hideAll h (x :: T :: frs l)) l x (.ref C) a0 h := by
  obtain ⟨oe, vs, oT, ts, a0, h1, h2, h3, h4, h5, h7, h8, h9, h10⟩ := f
  refine ⟨a0, fun b o q => PySem.W.of_hideAll _ q, PySem.W.hideAll_none _ List.mem_cons_self, PySem.W.funFrames_hide fr fun env he a ha => List.mem_cons_of_mem _ (List.mem_cons_of_mem _ (mem_frs he ha)), ?_⟩
  exact ⟨oe, vs, T, oT, ts, h1, ⟨h2, h3⟩, h4, h5, PySem.W.hideAll_none _ (List.mem_cons_of_mem _ List.mem_cons_self), h7, h8, h9, h10⟩

/-- what a step of the flight changes: the exception, its trace, the slots of frames -/
structure After (fs : List Addr) (x T : Addr) (h h' : Heap) : Prop where
  keep : ∀ b o, h.get? b = some o → b ∉ fs → b ≠ x → b ≠ T → h'.get? b = some o
  slot : ∀ b o, h.get? b = some o → b ∈ fs → ∃ sl, h'.get? b = some { o with slots := sl }
theorem After.of {base h h' : Heap} {l l' : List Env} {x C T : Addr} {a0 : Value} (f : Heap.FlyingW (PySem.W.hideAll h (x :: T :: frs l)) l' x (.ref C) a0 h') (fr : h.FunFrames base l) (u : h.UpToSlots h') : After (frs l) x T h h' := by
  refine ⟨fun b o q nb nx nT => f.1 b o (PySem.W.hideAll_get _ q fun z => ?_), fun b o q hb => ?_⟩
  · rcases List.mem_cons.mp z with e | z
    · exact nx e
    · rcases List.mem_cons.mp z with e | z
      · exact nT e
      · exact nb z
  · obtain ⟨_, o', e, nf⟩ := fr.mem hb
    rw [q] at e; cases e
    exact u b o q nf
theorem Un.after {fs fs' : List Addr} {x T : Addr} {H₀ H : Hp} {h₀ h h' : Heap} (u : Un fs [] H₀ H h₀ h) (a : After fs' x T h h') (hx : h₀.get? x = none) (hT : h₀.get? T = none) (hs : ∀ b o, h₀.get? b = some o → b ∈ fs' → b ∈ fs) : Un fs [] H₀ H h₀ h' := by
  have nx : ∀ b o, h₀.get? b = some o → b ≠ x := fun b o e z => by rw [z, hx] at e; cases e
  have nT : ∀ b o, h₀.get? b = some o → b ≠ T := fun b o e z => by rw [z, hT] at e; cases e
  refine ⟨fun b o e n hb hx' => a.keep b o (u.keep b o e n hb hx') (fun z => hb (hs b o e z)) (nx b o e) (nT b o e), fun b o e n hb hx' => ?_, u.free, fun b o e hx' => ?_, u.tups, u.frzs, u.tbls⟩
  · obtain ⟨sl, e1⟩ := u.slot b o e n hb hx'
    by_cases hb' : b ∈ fs'
    · obtain ⟨sl', e2⟩ := a.slot b _ e1 hb'
      exact ⟨sl', e2⟩
    · exact ⟨sl, a.keep b _ e1 hb' (nx b o e) (nT b o e)⟩
  · obtain ⟨o', e1⟩ := u.there b o e hx'
    by_cases hb' : b ∈ fs'
    · obtain ⟨sl', e2⟩ := a.slot b _ e1 hb'
      exact ⟨_, e2⟩
    · exact ⟨o', a.keep b _ e1 hb' (nx b o e) (nT b o e)⟩
theorem HOk.after {P : Program} {w : World} {fs : List Addr} {x T : Addr} {H : Hp} {h h' : Heap} (ok : HOk P w H h) (a : After fs x T h h') (hfs : ∀ b ∈ fs, H b = none) (hx : H x = none) (hT : H T = none) : HOk P w H h' := fun b o e => by
  have key : ∀ c u, H c = some u → c ∉ fs ∧ c ≠ x ∧ c ≠ T := fun c u q => ⟨fun z => (by rw [hfs c z] at q; cases q), fun z => (by rw [z, hx] at q; cases q), fun z => (by rw [z, hT] at q; cases q)⟩
  refine (ok b o e).stay (fun c u hc q => ?_) (fun _ q => q) fun _ _ q => q
  have k : c ∉ fs ∧ c ≠ x ∧ c ≠ T := by
    rcases hc with z | z
    · rw [z]; exact key b o e
    · exact key c _ z
  exact a.keep c u q k.1 k.2.1 k.2.2

/-- how an exception lies behind a call -/
noncomputable def CXE (P : Program) (w : World) : CXT := fun outer H s E e s' => ∃ (x C T : Addr) (H' : Hp), e = .ref x ∧ s'.os = s.os ∧ AllBare s'.gens ∧ Un (frs outer) [] H H' s.heap s'.heap ∧ HOk P w H' s'.heap ∧ Flies x C T s'.heap ∧
  H' x = none ∧ H' T = none ∧ s.heap.get? x = none ∧ s.heap.get? T = none ∧ E (.ref C) none H'

section
variable {X : Cx} {pins : List (Addr × Obj)} {σ : St} {H : Hp} {s s' : Shared} {E : XK} {M : Model} {EE : Value → Shared → Prop}
/-- the body of a def: its frame is the newest -/
structure Body (X : Cx) : Prop where
  st : X.stack = X.env :: X.outer
  fr : X.env.frame = some X.env.locals
  ex : X.ex = []
theorem Inv.base0 (I : Inv X pins σ H s) (B : Body X) : Un X.fs [] X.H₀ H X.s₀.heap s.heap := by
  have u := I.base
  rw [B.ex] at u
  exact u
theorem Inv.old_fs (I : Inv X pins σ H s) {b : Addr} {o : Obj} (e : X.s₀.heap.get? b = some o) (hb : b ∈ frs X.stack) : b ∈ X.fs := by
  rcases List.mem_cons.mp (I.stkSub b hb) with z | z
  · rw [z] at e
    exact absurd (Nat.lt_of_lt_of_le (Heap.lt_size e) I.ok.above) (Nat.lt_irrefl _)
  · exact z
theorem Inv.gone (I : Inv X pins σ H s) (B : Body X) {b : Addr} (e : s.heap.get? b = none) : X.s₀.heap.get? b = none := by
  cases q : X.s₀.heap.get? b with
  | none => rfl
  | some o =>
    obtain ⟨o', z⟩ := (I.base0 B).there b o q (by simp)
    rw [e] at z; cases z
theorem traceNew {base h' : Heap} {l : List Env} {x C T : Addr} (f : Flies x C T h') (fr : h'.FunFrames base l) : T ∉ frs l := fun z => by
  obtain ⟨_, o, e, nf⟩ := fr.mem z
  obtain ⟨oe, vs, oT, ts, a0, _, _, _, _, _, _, h8, h9, _⟩ := f
  rw [e] at h8; cases h8
  exact nf _ h9

/-- a new exception leaves the body -/
theorem leave_made (B : Body X) (I : Inv X pins σ H s) {e C : Addr} {vs : List Value} {h1 : Heap} (hx : Heap.MadeExcOf s.heap h1 e (.ref C) vs) (q : E (.ref C) none H) :
    wpAny M X.A (leaving X.env (.ref e)) (fun _ s'' => CXE X.prog X.w X.outer X.H₀ X.s₀ E (.ref e) s'') EE { s with heap := h1 } := by
  have hl : s.heap.FunFrames (PySem.W.hideAll s.heap (frs X.stack)) X.stack := PySem.W.funFrames_hide I.stack fun env he a ha => mem_frs he ha
  refine wpAny_leaves_madeW (base := PySem.W.hideAll s.heap (frs X.stack)) (h := s.heap) (by rw [I.ok.frames, B.st]) B.fr (fun b o z => PySem.W.of_hideAll _ z) (by rw [← B.st]; exact hl) hx fun h2 t f1 _ _ f4 => ?_
  obtain ⟨T, fl, bT⟩ := Flies.of f1
  have nT : T ∉ X.fs := traceNew fl f1.2.2.1
  have a : After (frs X.stack) e T s.heap h2 := by
    refine ⟨fun b o z nb _ _ => f1.1 b o (PySem.W.hideAll_get _ z nb), fun b o z hb => ?_⟩
    obtain ⟨_, o', z', nf⟩ := I.stack.mem hb
    rw [z] at z'; cases z'
    exact f4 b o (hx.keeps b o z) nf
  have ge : s.heap.get? e = none := hx.new
  have se : X.s₀.heap.get? e = none := I.gone B ge
  have sT : X.s₀.heap.get? T = none := by
    cases z : X.s₀.heap.get? T with
    | none => rfl
    | some o =>
      exfalso
      obtain ⟨o', z'⟩ := (I.base0 B).there T o z (by simp)
      have nb : T ∉ frs X.stack := fun hb => nT (I.old_fs z hb)
      have := PySem.W.hideAll_get (frs X.stack) z' nb
      rw [bT] at this; cases this
  have hT : H T = none := by
    cases z : H T with
    | none => rfl
    | some o =>
      exfalso
      obtain ⟨ob, z'⟩ := (I.hok T o z).there
      have nb : T ∉ frs X.stack := fun hb => by rw [I.stkFree T hb] at z; cases z
      have := PySem.W.hideAll_get (frs X.stack) z' nb
      rw [bT] at this; cases this
  have he : H e = none := I.hok.none_of ge
  exact ⟨e, C, T, H, rfl, I.os, I.bare, (I.base0 B).after a se sT fun b o z hb => I.old_fs z hb, I.hok.after a I.stkFree he hT, fl, he, hT, se, sT, q⟩

/-- an exception of a callee leaves the body -/
theorem leave_on (B : Body X) (I : Inv X pins σ H s) {e : Value} (c : CXE X.prog X.w X.stack H s E e s') : wpAny M X.A (leaving X.env e) (fun _ s'' => CXE X.prog X.w X.outer X.H₀ X.s₀ E e s'') EE s' := by
  obtain ⟨x, C, T, H', rfl, os, bare, un, hok, fl, nx, nT, sx, sT, q⟩ := c
  have I' : Inv X pins σ H' s' := I.call' (ch := []) os un hok bare fun b z => absurd z (by simp)
  obtain ⟨a0, hfl⟩ := fl.fly I'.stack
  have hfl' := hfl
  rw [B.st] at hfl'
  refine wpAny_leaves_onW (by rw [I.ok.frames, B.st]) B.fr hfl' fun h2 f1 f4 => ?_
  obtain ⟨T', fl', bT⟩ := Flies.of f1
  have f1' : Heap.FlyingW (PySem.W.hideAll s'.heap (x :: T :: frs X.stack)) X.outer x (.ref C) a0 h2 := by rw [B.st]; exact f1
  have a : After (frs X.stack) x T s'.heap h2 := After.of f1' I'.stack f4
  have sx0 := I.gone B sx
  have sT0 := I.gone B sT
  have nfT : T' ∉ X.fs := traceNew fl' f1.2.2.1
  have bT' : (PySem.W.hideAll s'.heap (x :: T :: frs X.stack)).get? T' = none := by rw [B.st]; exact bT
  have out : ∀ o, s'.heap.get? T' = some o → T' ≠ x → T' ≠ T → T' ∉ frs X.stack → False := fun o z n1 n2 n3 => by
    have := PySem.W.hideAll_get (x :: T :: frs X.stack) z fun w => by
      rcases List.mem_cons.mp w with e | w
      · exact n1 e
      · rcases List.mem_cons.mp w with e | w
        · exact n2 e
        · exact n3 w
    rw [bT'] at this; cases this
  have hT' : H' T' = none := by
    cases z : H' T' with
    | none => rfl
    | some o =>
      exfalso
      obtain ⟨ob, z'⟩ := (hok T' o z).there
      exact out ob z' (fun w => by rw [w, nx] at z; cases z) (fun w => by rw [w, nT] at z; cases z) fun hb => by rw [I'.stkFree T' hb] at z; cases z
  have sT' : X.s₀.heap.get? T' = none := by
    cases z : X.s₀.heap.get? T' with
    | none => rfl
    | some o =>
      exfalso
      obtain ⟨o', z'⟩ := (I'.base0 B).there T' o z (by simp)
      exact out o' z' (fun w => by rw [w, sx0] at z; cases z) (fun w => by rw [w, sT0] at z; cases z) fun hb => nfT (I'.old_fs z hb)
  exact ⟨x, C, T', H', rfl, I'.os, I'.bare, (I'.base0 B).after a sx0 sT0 fun b o z hb => I'.old_fs z hb, hok.after a I'.stkFree nx nT, fl', nx, hT', sx0, sT', q⟩
end
end L2

set_option Elab.async false
set_option linter.all false
set_option maxRecDepth 100000
set_option maxHeartbeats 4000000
/-! Values as plain data in the hand layer: tuples and lists, nested; == and != over them -/
namespace L2
open PySem PySem.Spec PyProof.Rows PySem.SeqAt
mutual
inductive Dat (K : PySem.W.Frag) (H : Hp) : V → PyData → Prop
  | non : Dat K H .non .none
  | bl (b : Bool) : Dat K H (.bl b) (.bool b)
  | int (i : Int) : Dat K H (.int i) (.int i)
  | str (x : Str) : Dat K H (.str x) (.str x)
  | tup {a : Addr} {xs : List V} {ds : List PyData} : SqT K H a xs → DatAll K H xs ds → Dat K H (.ref a) (.tuple ds)
  | lst {a : Addr} {xs : List V} {ds : List PyData} : SqL K H a xs → DatAll K H xs ds → Dat K H (.ref a) (.list ds)
inductive DatAll (K : PySem.W.Frag) (H : Hp) : List V → List PyData → Prop
  | nil : DatAll K H [] []
  | cons {x : V} {xs : List V} {d : PyData} {ds : List PyData} : Dat K H x d → DatAll K H xs ds → DatAll K H (x :: xs) (d :: ds)
end
theorem Same.tup {K : PySem.W.Frag} {H H' : Hp} {a : Addr} {xs : List V} (e : Same H H') (h : SqT K H a xs) : SqT K H' a xs := by
  rcases h with (h | ⟨o, h⟩) | h
  · exact .inl (.inl (e _ _ h))
  · exact .inl (.inr ⟨o, e _ _ h⟩)
  · exact .inr h
section
variable {X : Cx} {pins : List (Addr × Obj)} {σ : St} {H : Hp} {s : Shared}
mutual
theorem Dat.reads (I : Inv X pins σ H s) : ∀ {v : V} {d : PyData}, Dat X.K H v d → ∀ {u : Value}, RelV v u → ∃ as, Reads s.heap u d as
  | _, _, .non, _, r => by cases (show _ = Value.none from r); exact ⟨_, .none⟩
  | _, _, .bl b, _, r => by cases (show _ = Value.bool b from r); exact ⟨_, .bool b⟩
  | _, _, .int i, _, r => by obtain ⟨t, e⟩ := (show ∃ t, _ = Value.int i t from r); cases e; exact ⟨_, .int i t⟩
  | _, _, .str x, _, r => by obtain ⟨t, e⟩ := (show ∃ t, _ = Value.str x t from r); cases e; exact ⟨_, .str x t⟩
  | _, _, .tup h q, _, r => by
    cases r
    obtain ⟨its, rv, ⟨o, e, c, n, dt⟩, _⟩ := I.tuple h
    obtain ⟨as, ra⟩ := DatAll.reads I q rv
    exact ⟨_, .tuple e c dt (by simpa using ra)⟩
  | _, _, .lst h q, _, r => by
    cases r
    obtain ⟨its, rv, ⟨o, n, e, c, _, dt⟩, _⟩ := I.list h
    obtain ⟨as, ra⟩ := DatAll.reads I q rv
    exact ⟨_, .list e c dt (by simpa using ra)⟩
theorem DatAll.reads (I : Inv X pins σ H s) : ∀ {vs : List V} {ds : List PyData}, DatAll X.K H vs ds → ∀ {us : List Value}, Vals vs us → ∃ as, ReadsAll s.heap us ds as
  | _, _, .nil, _, .nil => ⟨_, .nil⟩
  | _, _, .cons h q, _, .cons r rr => by
    obtain ⟨as, ra⟩ := Dat.reads I h r
    obtain ⟨bs, rb⟩ := DatAll.reads I q rr
    exact ⟨_, .cons ra rb⟩
end
end

/-! ### == and != -/
noncomputable def rEqD (K : PySem.W.Frag) : R2 := fun x y H Q => ∃ d e, Dat K H x d ∧ Dat K H y e ∧ shaped d = true ∧ shaped e = true ∧ Q (.bl (PyData.eqv d e)) H
noncomputable def rNeD (K : PySem.W.Frag) : R2 := fun x y H Q => ∃ d e, Dat K H x d ∧ Dat K H y e ∧ shaped d = true ∧ shaped e = true ∧ Q (.bl (!PyData.eqv d e)) H
section
variable {X : Cx}
theorem op_eqD (hu : X.A.units + 64 < cLine) : OpR X (compareOp .Eq) (rEqD X.K) := by
  intro pins s σ H x y v u Q I rx ry h
  obtain ⟨d, e, h1, h2, h3, h4, q⟩ := h
  obtain ⟨as, ra⟩ := h1.reads I rx
  obtain ⟨bs, rb⟩ := h2.reads I ry
  exact compareEq_shaped ra rb h3 h4 hu ⟨.bl _, H, I, rfl, q⟩
theorem op_neD (hu : X.A.units + 64 < cLine) : OpR X (compareOp .NotEq) (rNeD X.K) := by
  intro pins s σ H x y v u Q I rx ry h
  obtain ⟨d, e, h1, h2, h3, h4, q⟩ := h
  obtain ⟨as, ra⟩ := h1.reads I rx
  obtain ⟨bs, rb⟩ := h2.reads I ry
  exact compareNe_shaped ra rb h3 h4 hu ⟨.bl _, H, I, rfl, q⟩
end

/-! ### equality of data as equality -/
theorem eqv_all {α : Type} [DecidableEq α] {f : α → PyData} (h : ∀ a b, PyData.eqv (f a) (f b) = decide (a = b)) : ∀ xs ys : List α, PyData.eqvAll (xs.map f) (ys.map f) = decide (xs = ys)
  | [], [] => by simp [PyData.eqvAll]
  | [], _ :: _ => by simp [PyData.eqvAll]
  | _ :: _, [] => by simp [PyData.eqvAll]
  | x :: xs, y :: ys => by
    show (PyData.eqv (f x) (f y) && PyData.eqvAll (xs.map f) (ys.map f)) = _
    rw [h, eqv_all h xs ys]
    by_cases e1 : x = y
    · by_cases e2 : xs = ys
      · simp [e1, e2]
      · simp [e1, e2]
    · simp [e1]
theorem eqv_int (a b : Int) : PyData.eqv (.int a) (.int b) = decide (a = b) := by
  show (a == b) = _
  rw [Bool.beq_eq_decide_eq]
theorem eqv_bool (a b : Bool) : PyData.eqv (.bool a) (.bool b) = decide (a = b) := by
  show (a == b) = _
  rw [Bool.beq_eq_decide_eq]
theorem eqv_ints (xs ys : List Int) : PyData.eqv (.tuple (xs.map .int)) (.tuple (ys.map .int)) = decide (xs = ys) := eqv_all eqv_int xs ys
theorem canLay_all {α : Type} {f : α → PyData} (h : ∀ a, (f a).canLay0 = true) : ∀ xs : List α, PyData.canLayAll0 (xs.map f) = true
  | [] => rfl
  | x :: r => by
    show ((f x).canLay0 && PyData.canLayAll0 (r.map f)) = true
    rw [h x, canLay_all h r]
    rfl
theorem depth_all {α : Type} {f : α → PyData} {k : Nat} (h : ∀ a, (f a).depth ≤ k) : ∀ xs : List α, PyData.depthAll (xs.map f) ≤ k
  | [] => Nat.zero_le _
  | x :: r => by
    show max (f x).depth (PyData.depthAll (r.map f)) ≤ k
    exact Nat.max_le.mpr ⟨h x, depth_all h r⟩
theorem shaped_of {d : PyData} (h1 : d.canLay0 = true) (h2 : d.depth ≤ 64) : shaped d = true := by
  unfold shaped
  rw [h1, decide_eq_true h2]
  rfl
end L2

set_option Elab.async false
set_option linter.all false
set_option maxRecDepth 100000
set_option maxHeartbeats 4000000
namespace L2
open PySem PySem.Spec PyProof.Rows

/-! ### a def whose exceptions are known -/
section
variable {P : Program} {w : World} {K : PySem.W.Frag} {mg : Str → Option Value} {base : Heap}
theorem Fun.okE {x qual : Str} {st : Stmt} {f : Addr} {fd : FuncData} {N ps : List Str} {k : Nat} {sp : Sp} (F : Fun K x qual st f fd) (S : FnScope N ps (defScope st)) (len : ∀ vs H Q E, sp vs H Q E → vs.length = ps.length)
    (hbody : ∀ (cdv : Value) (A : Around) (outer : List Env) (s : Shared) (H : Hp) (vs : List V) (Q : VK) (E : XK), Room k (A.deeper (envOfC qual (defScope st) s.heap.objs.size f cdv)) → sp vs H Q E →
      ∃ t, PSs (cxOf (CXE P w) P w K mg base N qual (defScope st) f cdv A outer s H E) (defBody st) t ∧ t { nx := fun _ H' => Q .non H', rt := Q } (start N vs) H) : FnOk P w K mg base (CXE P w) (k + 1) f fd ps sp := by
  obtain ⟨oc, od, kV, doc, pm, an, cdv, ct, osl, rfl, lk, hcd⟩ := F.ex
  exact fn_of lk hcd S len fun A outer s H vs Q E hr hsp => hbody cdv A outer s H vs Q E hr hsp
end
/-- no exception comes out of the callee -/
theorem passN {P : Program} {w : World} {X : Cx} : Passes (CXE P w) X E0 := fun _ _ _ _ _ _ _ h => by
  obtain ⟨_, _, _, _, _, _, _, _, _, _, _, _, _, _, q⟩ := h
  exact q.elim
section
variable {P : Program} {w : World} {K : PySem.W.Frag} {mg : Str → Option Value} {base : Heap} {N : List Str} {qual : Str} {scope : Scope} {f : Addr} {cd : Value} {A : Around} {outer : List Env} {s : Shared} {H : Hp} {E : XK}
theorem body_fn : Body (cxOf (CXE P w) P w K mg base N qual scope f cd A outer s H E) := ⟨rfl, rfl, rfl⟩
/-- a callee's exception goes on to the caller -/
theorem passE : Passes (CXE P w) (cxOf (CXE P w) P w K mg base N qual scope f cd A outer s H E) E := fun _ _ _ _ _ _ I c => leave_on (X := cxOf (CXE P w) P w K mg base N qual scope f cd A outer s H E) body_fn I c
theorem ownE : PassesOwn (model P w) (A.deeper (envOfC qual scope s.heap.objs.size f cd)) (envOfC qual scope s.heap.objs.size f cd) (cxOf (CXE P w) P w K mg base N qual scope f cd A outer s H E).xe := PassesOwn.leaving
end

/-! ### raise C(e, ..) -/
noncomputable def Raises (X : Cx) (E : XK) : Prop := ∀ (pins : List (Addr × Obj)) (σ : St) (H : Hp) (s : Shared) (h1 : Heap) (e C : Addr) (vs : List Value), Inv X pins σ H s → Heap.MadeExcOf s.heap h1 e (.ref C) vs → E (.ref C) none H → X.xe (.ref e) { s with heap := h1 }
theorem raiseE {P : Program} {w : World} {K : PySem.W.Frag} {mg : Str → Option Value} {base : Heap} {N : List Str} {qual : Str} {scope : Scope} {f : Addr} {cd : Value} {A : Around} {outer : List Env} {s : Shared} {H : Hp} {E : XK} :
    Raises (cxOf (CXE P w) P w K mg base N qual scope f cd A outer s H E) E := fun _ _ _ _ _ _ _ _ I hx q => leave_made (X := cxOf (CXE P w) P w K mg base N qual scope f cd A outer s H E) body_fn I hx q
theorem exc_of_in {K : PySem.W.Frag} {h : Heap} {C : Addr} {bmB : List Value} {newId : String} (X : K.In h) (q : PySem.W.excIn K C bmB newId = true) :
    ∃ bm N nm qn bs hd sn sub ab col dd k0 k1 k2 k3 k5 mN, h.get? C = some (excClassObj nm qn C N bs bm hd sn sub ab col dd k0 k1 k2 k3 k5 newId) ∧ h.Ns N mN ∧ mN "__init__" = none ∧ OwnTail h bmB bm := by
  unfold PySem.W.excIn at q
  split at q
  · rename_i dd cd sl ho
    split at q
    · rename_i C' bm k0 k1 k2 k3 n k5 hm hs
      simp only [Bool.and_eq_true, beq_iff_eq, Bool.not_eq_true'] at q
      obtain ⟨⟨⟨⟨⟨rfl, rfl⟩, hdel⟩, ht⟩, hok⟩, hni⟩ := q
      obtain ⟨nm, bs, mro, ns, qn, hd, sn, sub, ab, col, del⟩ := cd
      dsimp only at hm hdel hok hni
      subst hm hdel
      have hsl : sl = #[k0, k1, k2, k3, some (.builtin n), k5] := by
        obtain ⟨l⟩ := sl
        simp only at hs
        rw [hs]
      subst hsl
      exact ⟨bm, ns, nm, qn, bs, hd, sn, sub, ab, col, dd, k0, k1, k2, k3, k5, _, X _ _ ho, .of_isNs (PySem.W.isNs_of_in X hok), PySem.W.nsMap_none_of_in X hok hni, PySem.W.tail_of_in X ht⟩
    · cases q
  · cases q
abbrev veTail : List Value := [.type "ValueError", .type "Exception", .type "BaseException", .type "object"]
noncomputable def tRaise (C : Addr) (E : XK) (ta : TA) : TS := fun _ σ H => ta σ H fun vs H1 => vs.length ≤ sizeLine ∧ E (.ref C) none H1
theorem ps_raise {X : Cx} {E : XK} {x : Str} {C : Addr} {e₀ : Expr} {rest : List Expr} {ta : TA} {np cpos pos : Pos} (hR : Raises X E) (hc : X.calm = true) (hg : Gl X x) (hm : X.mg x = some (.ref C)) (hx : PySem.W.excIn X.K C veTail "ValueError.__new__" = true)
    (ha : PA X (e₀ :: rest) ta) (he : starEach (e₀ :: rest) X.env = (false, eval e₀ X.env) :: starEach rest X.env := by rfl) (hplain : (backTo cpos (starEach rest X.env)).any (·.1) = false := by rfl) (hd : (x == ("__debug__" : Str)) = false := by decide) :
    PS X (.Raise (some (.Call (.Name x np) (e₀ :: rest) [] cpos)) none pos) (tRaise C E ta) := by
  intro pins s σ H D I h
  obtain ⟨bm, N, nm, q, bs, hdct, sn, sub, ab, col, dd, k0, k1, k2, k3, k5, mN, hC, hN, hni, T⟩ := exc_of_in I.ok.mod.kin hx
  refine wpAny_Raise_call_subT (C := C) (nm := nm) (q := q) (N := N) (bs := bs) (bm := bm) (hdct := hdct) (sn := sn) (sub := sub) (ab := ab) (col := col) (dd := dd) (k0 := k0) (k1 := k1) (k2 := k2) (k3 := k3) (k5 := k5)
    F.excBase_ValueError (mN := mN) (T.hasType F.excBase_ValueError.hasBase) (I.ok.hd hc) (by rw [he]; show (false || (backTo cpos (starEach rest X.env)).any (·.1)) = false; rw [hplain]; rfl) hni (ld_glob I hg hm ⟨rfl, ?_⟩ hd)
  have hA := ha cpos pins s σ H _ I h
  rw [he] at hA ⊢
  refine Calls.evalArgs_plain (thn hA fun us s2 ⟨vs, H2, I2, r2, z, q2⟩ => ?_)
  exact ⟨rfl, by rw [← r2.length]; exact z, I2.bk _ _ hC, hN.keeps I2.bk, T.keeps I2.bk, fun h' e hm' => hR pins σ H2 s2 h' e C us I2 hm' q2⟩

/-! ### a name goes -/
section
variable {X : Cx} {pins : List (Addr × Obj)} {σ : St} {H : Hp} {s : Shared}
theorem name_goes {M : Model} {A : Around} {E : Value → Shared → Prop} {j : Nat} {n : Str} {pos : Pos} {Q : Unit → Shared → Prop} (I : Inv X pins σ H s) (hN : X.N.Nodup) (hj : X.N[j]? = some n) (hk : X.env.scope.names.lookup n = some .local)
    (h : ∀ s', Inv X pins (σ.set j none) H s' → Q () s') : wpAny M A (do bindName X.env n .none; unbindBehindTheSuite X.env n pos) Q E s := by
  obtain ⟨m, hn, hl⟩ := id I.loc
  have hcls : (X.env.scope.kind == .class || (X.env.scope.kind == .module && X.env.locals != X.env.globals)) = false := by rw [I.ok.kind]; rfl
  have hjσ : j < σ.length := by rw [I.len]; exact (List.getElem?_eq_some_iff.mp hj).1
  have cne := I.cne
  refine wpAny_nameGoes_keeps hk hn hcls fun h' v hn' hs => ?_
  obtain ⟨oL, _, _, hoL, _⟩ := id hn
  have old : ∀ b o, X.s₀.heap.get? b = some o → b ≠ X.env.locals := fun b o e => Nat.ne_of_lt (Nat.lt_of_lt_of_le (Heap.lt_size e) I.ok.above)
  refine h _ ⟨I.ok, I.os, I.bare, ⟨fun b o e n hb hx => (hs.2 b (old b o e)).trans (I.base.keep b o e n hb hx), fun b o e n hb hx => ?_, I.base.free, fun b o e hx => ?_, I.base.tups, I.base.frzs, I.base.tbls⟩, ⟨_, hn', fun i y v' e1 e2 e3 => ?_⟩, fun y c e => ?_, I.free, I.freeC, fun p hp => ?_, fun b ob e => ?_, by simpa using I.len⟩
  · obtain ⟨sl, e1⟩ := I.base.slot b o e n hb hx
    exact ⟨sl, (hs.2 b (old b o e)).trans e1⟩
  · obtain ⟨o', e1⟩ := I.base.there b o e hx
    exact ⟨o', (hs.2 b (old b o e)).trans e1⟩
  · by_cases hi : i = j
    · subst hi
      rw [List.getElem?_set_self hjσ] at e2
      cases e2
    · rw [List.getElem?_set_ne (Ne.symm hi)] at e2
      obtain ⟨u', r', q⟩ := hl i y v' e1 e2 e3
      refine ⟨u', r', ?_⟩
      rcases q with ⟨k, e⟩ | ⟨k, c, e, z⟩
      · have ny : y ≠ n := fun z => hi (nodup_ix hN e1 (z ▸ hj))
        exact .inl ⟨k, by simp [ny, e]⟩
      · exact .inr ⟨k, c, e, z.sameBut hs (cne y c e)⟩
  · obtain ⟨w', z⟩ := I.cell y c e
    exact ⟨w', z.sameBut hs (cne y c e)⟩
  · obtain ⟨e, n, ne, nf, d⟩ := I.pin p hp
    exact ⟨(hs.2 p.1 ne).trans e, n, ne, nf, d⟩
  · have nL : ∀ c u, H c = some u → c ≠ X.env.locals := fun c u q z => by rw [z, I.free] at q; cases q
    refine (I.hok b ob e).stay (fun c w' hc q => (hs.2 c ?_).trans q) (fun _ q => q) fun _ _ q => q
    rcases hc with z | z
    · rw [z]; exact nL b ob e
    · exact nL c _ z
end

/-! ### try: x = f(e, ..) except D as n: suite -/
noncomputable def suiteCx (X : Cx) (x : Addr) : Cx :=
  { prog := X.prog, w := X.w, K := X.K, mg := X.mg, base := X.base, A := X.A.mark (some (.ref x)), N := X.N, s₀ := X.s₀, H₀ := X.H₀, env := X.env, outer := X.outer, stack := X.stack, ex := X.ex, fn := X.fn, calm := false, pn := X.pn, xe := fun _ _ => False }
section
variable {X : Cx} {pins : List (Addr × Obj)} {σ : St} {H : Hp} {s : Shared} {x : Addr}
theorem suite_ok (ok : X.Ok) : (suiteCx X x).Ok := ⟨ok.mod, ok.kind, ok.glob, ok.blt, ok.above, ok.inj, ok.has, ok.cab, (fun h => nomatch h), ok.frames, ok.stk, ok.exf, ok.bs, ok.bsz, ok.noex, ok.exfs, ok.funs, ok.frf⟩
theorem Inv.suite (I : Inv X pins σ H s) (x : Addr) : Inv (suiteCx X x) pins σ H s := ⟨suite_ok I.ok, I.os, I.bare, I.base, I.loc, I.cell, I.free, I.freeC, I.pin, I.hok, I.len⟩
theorem Inv.unsuite (ok : X.Ok) (I : Inv (suiteCx X x) pins σ H s) : Inv X pins σ H s := ⟨ok, I.os, I.bare, I.base, I.loc, I.cell, I.free, I.freeC, I.pin, I.hok, I.len⟩
theorem Un.track {fs : List Addr} {H H' : Hp} {h h' : Heap} {x : Addr} {o : HO} (u : Un fs [] H H' h h') (hx : h.get? x = none) (nx : H' x = none) : Un fs [] H (upd H' x o) h h' := by
  have ne : ∀ b u', H' b = some u' → b ≠ x := fun b u' q z => by rw [z, nx] at q; cases q
  refine ⟨u.keep, u.slot, fun b ob e n hx' => ?_, u.there, fun b xs q => ?_, fun b ob v q => ?_, fun b ps q => ?_⟩
  · rw [upd_ne (fun z => by rw [z, hx] at e; cases e)]
    exact u.free b ob e n hx'
  · rw [upd_ne (ne b _ (u.tups b xs q))]; exact u.tups b xs q
  · rw [upd_ne (ne b _ (u.frzs b ob v q))]; exact u.frzs b ob v q
  · obtain ⟨more, e⟩ := u.tbls b ps q
    exact ⟨more, by rw [upd_ne (ne b _ e)]; exact e⟩
theorem HOk.track {P : Program} {w : World} {H : Hp} {h : Heap} {x : Addr} {o : HO} (ok : HOk P w H h) (nx : H x = none) (new : ObjOk P w (upd H x o) h x o) : HOk P w (upd H x o) h := fun b u e => by
  have ne : ∀ c u', H c = some u' → c ≠ x := fun c u' q z => by rw [z, nx] at q; cases q
  by_cases hb : b = x
  · subst hb; rw [upd_same] at e; cases e; exact new
  · rw [upd_ne hb] at e
    exact (ok b u e).stay (fun _ _ _ q => q) (fun c q => by rw [upd_ne (ne c _ q)]; exact q) fun c xs q => by rw [upd_ne (ne c _ q)]; exact q
/-- the object of a caught exception -/
noncomputable abbrev excO (x C : Addr) : HO := .ext (ExcAt x C)
theorem excO_ok {P : Program} {w : World} {H : Hp} {h : Heap} {x C : Addr} (p : ExcAt x C h) : ObjOk P w H h x (excO x C) := by
  refine ⟨p, ?_, fun h1 h2 q k => ?_⟩
  · obtain ⟨o, _, e, _⟩ := p; exact ⟨o, e⟩
  · obtain ⟨o, vs, e, r⟩ := q
    exact ⟨o, vs, k o e, r⟩
/-- the class Cd catches exceptions of the class C -/
structure Catches (K : PySem.W.Frag) (C Cd : Addr) : Prop where
  ty : PySem.W.typeIn K (.ref Cd) = some (.type "type")
  is : PySem.W.isClsIn K Cd = true
  mB : PySem.W.mroIn K Cd (.type "BaseException") = some true
  mC : PySem.W.mroIn K C (.ref Cd) = some true
theorem exc_matches {M : Model} {A : Around} {E : Value → Shared → Prop} {K : PySem.W.Frag} {C Cd e : Addr} {Q : Bool → Shared → Prop} (KX : K.In s.heap) (c : Catches K C Cd) (p : ExcAt e C s.heap) (hq : Q true s) : wpAny M A (excMatches (.ref e) (.ref Cd)) Q E s := by
  obtain ⟨h, g, d, t, os⟩ := s
  have L0 := p.type (M := M)
  have L1 := PySem.W.looks_typeIn (M := M) KX c.ty
  have L2 := PySem.W.looks_mroIn (M := M) KX c.mB
  have L3 := PySem.W.looks_mroIn (M := M) KX c.mC
  have L4 : PySem.W.Looks M h (isType (.ref Cd)) true := by
    have hc := c.is
    unfold PySem.W.isClsIn PySem.W.clsIn at hc
    split at hc
    · rename_i c' d' cd' sl' ho
      intro A' Q' E' s' k q
      unfold isType loadHead
      exact wpAny_bind (wpAny_loadPart (k _ _ (KX _ _ ho)) (wpAny_pure q))
    · cases hc
  have f := tc_notTuple
  unfold excMatches isInstance isExcClass
  repeat (first | (with_reducible refine PySem.W.Looks.at (by assumption) ?_) | wp_step)
  all_goals exact hq
end

/-- the ends of a suite behind `as n`: the name in slot j is forgotten -/
noncomputable def Ends.forget (D : Ends) (j : Nat) : Ends := { nx := fun σ H => D.nx (σ.set j none) H, rt := D.rt, bk := fun σ H => D.bk (σ.set j none) H, ct := fun σ H => D.ct (σ.set j none) H }
/-- what the handler wants of a callee's exception -/
noncomputable def tCaught (X : Cx) (y : Str) (j : Nat) (ts : TS) (D : Ends) (σ : St) : XK := fun c _ H => ∃ C Cd, c = .ref C ∧ X.mg y = some (.ref Cd) ∧ Catches X.K C Cd ∧
  ∀ x, H x = none → ts (D.forget j) (σ.set j (some (.ref x))) (upd H x (excO x C))
section
variable {X : Cx} {pins : List (Addr × Obj)} {σ : St} {H : Hp} {s s' : Shared} {y n : Str} {j : Nat} {ts : TS} {D : Ends} {b₀ : Stmt} {suite : List Stmt} {np hpos : Pos} {rest : List ExceptHandler}
theorem caught (B : Body X) (hN : X.N.Nodup) (hj : X.N[j]? = some n) (hk : X.env.scope.names.lookup n = some .local) (hg : Gl X y) (hs : ∀ x, PSs (suiteCx X x) (b₀ :: suite) ts) (I : Inv X pins σ H s) {e : Value} (c : CXE X.prog X.w X.stack H s (tCaught X y j ts D σ) e s')
    (hdb : (y == ("__debug__" : Str)) = false := by decide) :
    wpAny (model X.prog X.w) X.A (noteFrame e X.env) (fun _ s₂ => wpAny (model X.prog X.w) X.A (setFlight e none) (fun _ s₃ =>
      wpAny (model X.prog X.w) X.A (handleBy e X.env (.ExceptHandler (some (.Name y np)) (some n) (b₀ :: suite) hpos :: rest)) (SP X pins D) X.xe s₃) X.xe s₂) X.xe s' := by
  obtain ⟨x, C, T, H', rfl, os, bare, un, hok, fl, nx, nT, sx, sT, C', Cd, eC, hmg, hcat, q⟩ := c
  cases eC
  have I' : Inv X pins σ H' s' := I.call' (ch := []) os un hok bare fun b z => absurd z (by simp)
  obtain ⟨a0, hfl⟩ := fl.fly I'.stack
  have hfl' := hfl
  rw [B.st] at hfl'
  have mk : ∀ h6, Heap.FlyingW (PySem.W.hideAll s'.heap (x :: T :: frs (X.env :: X.outer))) (X.env :: X.outer) x (.ref C) a0 h6 → s'.heap.UpToSlots h6 → Inv X pins σ (upd H' x (excO x C)) { s' with heap := h6 } := fun h6 f u => by
    rw [← B.st] at f
    have a : After (frs X.stack) x T s'.heap h6 := After.of f I'.stack u
    obtain ⟨T', fl', _⟩ := Flies.of f
    refine I.call' (s' := { s' with heap := h6 }) (ch := []) os ((un.after a sx sT fun _ _ _ hb => hb).track sx nx) ?_ bare fun b z => absurd z (by simp)
    exact (hok.after a I'.stkFree nx nT).track nx (excO_ok fl'.at)
  refine wpAny_looks_onW (by rw [I.ok.frames, B.st]) B.fr hfl' fun h4 hheld hsm4 => ?_
  refine wpAny_landsW hheld fun h5 hfl5 hsm5 => ?_
  have I5 := mk h5 hfl5 (hsm4.trans hsm5)
  have p5 : ExcAt x C h5 := by
    obtain ⟨_, fl', _⟩ := Flies.of hfl5
    exact fl'.at
  refine wpAny_handleBy_cons (codeAny_handlers_test ?_) (by intro z; cases z)
  refine ld_glob (X := suiteCx X x) (I5.suite x) hg hmg ?_ hdb
  refine exc_matches I5.kIn hcat p5 ?_
  show codeAny _ _ _ _ _
  refine codeAny_handlers_suite_as ?_
  refine lands_againW hfl5 fun h6 hfl6 hsm6 => ?_
  have I6 := mk h6 hfl6 (hsm4.trans (hsm5.trans hsm6))
  refine store_ok (X := suiteCx X x) (v := .ref x) (I6.suite x) hN hj (Or.inl hk) rfl (fun s7 I7 => ?_) (.inr hk)
  refine wpAny_mono (hs x pins s7 _ _ _ I7 (q x nx)) (fun f s8 h8 => ?_) fun _ _ z => z.elim
  cases f with
  | next =>
    obtain ⟨σ8, H8, I8, q8⟩ := h8
    exact name_goes (I8.unsuite I.ok) hN hj hk fun s9 I9 => ⟨_, H8, I9, q8⟩
  | brk =>
    obtain ⟨σ8, H8, I8, q8⟩ := h8
    exact name_goes (I8.unsuite I.ok) hN hj hk fun s9 I9 => ⟨_, H8, I9, q8⟩
  | cont =>
    obtain ⟨σ8, H8, I8, q8⟩ := h8
    exact name_goes (I8.unsuite I.ok) hN hj hk fun s9 I9 => ⟨_, H8, I9, q8⟩
  | ret u =>
    obtain ⟨v8, σ8, H8, I8, r8, q8⟩ := h8
    exact name_goes (I8.unsuite I.ok) hN hj hk fun s9 I9 => ⟨v8, _, H8, I9, r8, q8⟩

/-- try: z = f(e, ..) except y as n: suite -/
noncomputable def tTry (X : Cx) (sp : Sp) (i : Nat) (y : Str) (j : Nat) (t : TA) (ts : TS) : TS := fun D σ H => t σ H fun vs H1 => sp vs H1 (fun v H2 => D.nx (σ.set i (some v)) H2) (tCaught X y j ts D σ)
theorem ps_tryCall {k : Nat} {f : Addr} {fd : FuncData} {ps : List Str} {sp : Sp} {fn z : Str} {i : Nat} {e : Expr} {es : List Expr} {t : TA} {p zp cpos apos pos : Pos} (F : FnOk X.prog X.w X.K X.mg X.base (CXE X.prog X.w) k f fd ps sp) (hr : Room k X.A) (B : Body X)
    (hN : X.N.Nodup) (hi : X.N[i]? = some z) (hz : Loc X.env.scope z) (hgf : Gl X fn) (hmf : X.mg fn = some (.ref f)) (hkf : PySem.W.keepIn X.K (.ref f) = true) (hb : Binds X.K fd ps []) (ha : PA X.nox (e :: es) t)
    (hj : X.N[j]? = some n) (hk : X.env.scope.names.lookup n = some .local) (hg : Gl X y) (hs : ∀ x, PSs (suiteCx X x) (b₀ :: suite) ts) (hdf : (fn == ("__debug__" : Str)) = false := by decide) (hdb : (y == ("__debug__" : Str)) = false := by decide)
    (he : starEach (e :: es) X.env = (false, eval e X.env) :: starEach es X.env := by rfl) (hpl : (backTo cpos (starEach es X.env)).any (·.1) = false := by rfl)
    (hsw : swapsWith (.Call (.Name fn p) (e :: es) [] cpos) (some (.Name z zp)) apos.line X.env = pure false := by rfl) (hfz : X.fn z = true ∨ X.env.scope.names.lookup z = some .local := by first | exact .inl rfl | exact .inr rfl | assumption) :
    PS X (.Try [.Assign [.Name z zp] (.Call (.Name fn p) (e :: es) [] cpos) apos] [.ExceptHandler (some (.Name y np)) (some n) (b₀ :: suite) hpos] [] [] pos) (tTry X sp i y j t ts) := by
  intro pins s σ H D I h
  refine wpAny_Try_except (wpAny_execs_cons (wpAny_Assign_Name ?_ hsw))
  refine wpAny_Call_Name_kw (ld_glob I hgf hmf ?_ hdf)
  refine PySem.W.callWith_K (h₀ := X.base) I.ok.mod.kin hkf (wpAny_mono (ha cpos pins s σ H _ (I.wish _) h) (fun us s1 ⟨vs, H1, I1, r, q⟩ => ?_) fun _ _ w => w.elim) he hpl
  have I1' : Inv X pins σ H1 s1 := I1.unwish
  refine ⟨I1'.kIn, ?_⟩
  have hl : (us ++ []).length = ps.length := by rw [List.append_nil, ← r.length]; exact F.len _ _ _ _ q
  have hb' := hb s1 us I1'.kIn hl
  rw [List.append_nil] at hb'
  refine wpAny_call (codeAny_mono (F.run X.A X.stack s1 H1 ⟨us, []⟩ us vs _ _ hr I1'.env0 hb' r q) fun rr s' hq => ?_)
  cases rr with
  | error ev => exact caught B hN hj hk hg hs I1' hq hdb
  | ok fl =>
    cases fl with
    | ret u =>
      obtain ⟨v, H2, I2, rv, q2⟩ := I1'.after hq
      refine store_ok I2 hN hi hz rv (fun s3 I3 => ?_) hfz
      exact wpAny_execs_nil (wpAny_execs_nil ⟨_, H2, I3, q2⟩)
    | next => exact False.elim hq
    | brk => exact False.elim hq
    | cont => exact False.elim hq
end

/-! ### isinstance in the layer -/
inductive TyE (K : PySem.W.Frag) (H : Hp) : V → Value → Prop where
  | old {x : V} {t : Value} : TyOf K H x t → TyE K H x t
  | exc {x C : Addr} : H x = some (excO x C) → ExcCls K C → TyE K H (.ref x) (.ref C)
  | sqt {p : Addr} {xs : List V} : SqT K H p xs → TyE K H (.ref p) (.type "tuple")
  | sql {p : Addr} {xs : List V} : SqL K H p xs → TyE K H (.ref p) (.type "list")
  | dct {p : Addr} {φ : Heap → Prop} : H p = some (.ext φ) → (∀ h, φ h → ∃ o, h.get? p = some o ∧ o.cls = .type "dict") → TyE K H (.ref p) (.type "dict")
theorem isinstE_ok {X : Cx} {pins : List (Addr × Obj)} {σ : St} {H : Hp} {s : Shared} {E : Value → Shared → Prop} {Q : Value → Shared → Prop} {c : Value} {b : Bool} {x : V} {u t : Value} (I : Inv X pins σ H s) (rx : RelV x u) (ty : TyE X.K H x t) (e : PySem.W.kitOne X.K t c = some b)
    (h : ∀ tk, Q (.bool b) { s with toks := tk }) : wpAny (model X.prog X.w) X.A (call (.builtin "isinstance") [u, c]) Q E s := by
  cases ty with
  | old ty => exact isinst_ok I rx ty e h
  | @exc a C ea ec =>
    cases (show u = Value.ref a from rx)
    exact PySem.W.kia_one (kitx_exc ec) I.kIn (I.hok a _ ea).1 e (fun z => nomatch z) h
  | @sqt p xs hp =>
    cases (show u = Value.ref p from rx)
    obtain ⟨its, _, ⟨o, e1, e2, _⟩, _⟩ := I.tuple hp
    exact PySem.W.kia_one PySem.W.kitx_tuple I.kIn ⟨o, e1, e2⟩ e (fun z => nomatch z) h
  | @sql p xs hp =>
    cases (show u = Value.ref p from rx)
    obtain ⟨its, _, ⟨o, n, e1, e2, _⟩, _⟩ := I.list hp
    exact PySem.W.kia_one PySem.W.kitx_list I.kIn ⟨o, e1, e2⟩ e (fun z => nomatch z) h
  | @dct p φ hp hφ =>
    cases (show u = Value.ref p from rx)
    obtain ⟨o, e1, e2⟩ := hφ _ (I.hok p _ hp).1
    exact PySem.W.kia_one PySem.W.kitx_dict I.kIn ⟨o, e1, e2⟩ e (fun z => nomatch z) h
/-- isinstance(x, c): c a class given by its name -/
noncomputable def rIsi (K : PySem.W.Frag) (c : Value) : List V → Hp → VK → Prop := fun xs H Q => ∃ x y t b, xs = [x, y] ∧ TyE K H x t ∧ RelV y c ∧ PySem.W.kitOne K t c = some b ∧ Q (.bl b) H
theorem TyE.kind {K : PySem.W.Frag} {H : Hp} {x : V} {t : Value} (h : TyE K H x t) : (∃ n, t = .type n) ∨ ∃ a, t = .ref a := by
  cases h with
  | old h => cases h <;> first | exact .inl ⟨_, rfl⟩ | exact .inr ⟨_, rfl⟩
  | exc _ _ => first | exact .inl ⟨_, rfl⟩ | exact .inr ⟨_, rfl⟩
  | sqt _ => first | exact .inl ⟨_, rfl⟩ | exact .inr ⟨_, rfl⟩
  | sql _ => first | exact .inl ⟨_, rfl⟩ | exact .inr ⟨_, rfl⟩
  | dct _ _ => first | exact .inl ⟨_, rfl⟩ | exact .inr ⟨_, rfl⟩
theorem kit_no {K : PySem.W.Frag} {t c : Value} {b : Bool} (ht : (∃ n, t = .type n) ∨ ∃ a, t = .ref a) (hc : PySem.W.kitCls K t c = none) (hn : ∀ n, c ≠ .type n) (hr : ∀ a, c ≠ .ref a) (ek : PySem.W.kitOne K t c = some b) : False := by
  unfold PySem.W.kitOne at ek
  rw [hc] at ek
  by_cases h : (t == c) = true
  · have e := beq_iff_eq.mp h
    rcases ht with ⟨n, rfl⟩ | ⟨a, rfl⟩
    · exact hn n e.symm
    · exact hr a e.symm
  · rw [if_neg h] at ek
    cases ek
theorem call_isi {X : Cx} (c : Value) : CallR X (.builtin "isinstance") (rIsi X.K c) := by
  intro pins s σ H xs us Q I r h
  obtain ⟨x, y, t, b, e, ty, ry, ek, q⟩ := h
  subst e
  obtain ⟨u, v, e, r1, r2⟩ := r.two
  subst e
  have ev : v = c := by
    cases y with
    | ref a => exact (show v = .ref a from r2).trans (show c = .ref a from ry).symm
    | ty n => exact (show v = .type n from r2).trans (show c = .type n from ry).symm
    | non => exact (show v = .none from r2).trans (show c = .none from ry).symm
    | bl b => exact (show v = .bool b from r2).trans (show c = .bool b from ry).symm
    | int i => obtain ⟨t2, e2⟩ := (show ∃ t, c = Value.int i t from ry); subst e2; exact (kit_no ty.kind rfl (fun _ h => by cases h) (fun _ h => by cases h) ek).elim
    | str i => obtain ⟨t2, e2⟩ := (show ∃ t, c = Value.str i t from ry); subst e2; exact (kit_no ty.kind rfl (fun _ h => by cases h) (fun _ h => by cases h) ek).elim
    | byt i => obtain ⟨t2, e2⟩ := (show ∃ t, c = Value.bytes i t from ry); subst e2; exact (kit_no ty.kind rfl (fun _ h => by cases h) (fun _ h => by cases h) ek).elim
    | flt i => obtain ⟨t2, e2⟩ := (show ∃ t, c = Value.float i t from ry); subst e2; exact (kit_no ty.kind rfl (fun _ h => by cases h) (fun _ h => by cases h) ek).elim
  subst ev
  exact isinstE_ok I r1 ty ek fun tk => ⟨.bl b, H, I.tok tk, rfl, q⟩
end L2

set_option Elab.async false
set_option linter.all false
set_option maxRecDepth 100000
set_option maxHeartbeats 4000000
/-! Further rules of the hand layer: all, sorted, t + u, repr in a text, the signs of a text, slices, join, text * n -/
namespace L2
open PySem PySem.Spec PyProof.Rows PySem.SeqAt

theorem same_new {H : Hp} {p : Addr} (h : H p = none) (o : HO) : Same H (upd H p o) := fun b u q => by rw [upd_ne (ne_of_none q h)]; exact q
theorem Inv.chg {X : Cx} {pins : List (Addr × Obj)} {σ : St} {H : Hp} {s : Shared} {h' : Heap} {t' : Nat} (I : Inv X pins σ H s) (k : ∀ b u, s.heap.get? b = some u → h'.get? b = some u) : Inv X pins σ H { s with heap := h', toks := t' } := I.kept k

/-! ### all -/
theorem vals_bools : ∀ {bs : List Bool} {us : List Value}, Vals (bs.map V.bl) us → us = bs.map Value.bool
  | [], _, .nil => rfl
  | b :: r, _, .cons h t => by
    have e : _ = Value.bool b := h
    rw [List.map_cons, ← vals_bools t, e]
theorem call_all {X : Cx} (hc : X.calm = true) : CallR X (.builtin "all") (fun xs H Q => ∃ (p : Addr) (bs : List Bool), xs = [.ref p] ∧ SqL X.K H p (bs.map V.bl) ∧ Q (.bl (bs.all id)) H) := by
  intro pins s σ H xs us Q I r h
  obtain ⟨p, bs, rfl, hq, q⟩ := h
  obtain ⟨u, rfl, ru⟩ := r.one
  cases ru
  obtain ⟨its, rv, pl, hz⟩ := I.list hq
  have ei := vals_bools rv
  subst ei
  have hh : X.A.in1.handled = none := I.ok.hd hc
  refine call_all_walk (wpAny_pyIter_list pl.isList ?_)
  have hne : p ≠ s.heap.objs.size := Nat.ne_of_lt (by obtain ⟨o, e, _⟩ := pl.isList; exact Heap.lt_size e)
  refine ⟨s.heap.objs.size, [s.heap.objs.size, p], [s.heap.objs.size], (bs.map Value.bool).toArray.size, fun i v => (bs.map Value.bool).toArray[i]? = some v, _, fun i => bs.getD i false, rfl, Walks.list hh s.heap.objs.size p hne _, ⟨?_, ?_⟩, ?_, fun h' tk k => ?_⟩
  · exact ⟨_, Heap.get?_push_size _ rfl, rfl, rfl⟩
  · obtain ⟨o, e, r⟩ := pl.isList
    exact ⟨o, Heap.get?_push_of_some _ e, r⟩
  · intro i v s' Q' E' hi hQ
    have hi' : (bs.map Value.bool)[i]? = some v := by simpa using hi
    rw [List.getElem?_map] at hi'
    cases e : bs[i]? with
    | none => rw [e] at hi'; cases hi'
    | some b =>
      rw [e] at hi'
      have ev : Value.bool b = v := Option.some.inj hi'
      subst ev
      have eb : bs.getD i false = b := by simp [List.getD, e]
      have hQ' : Q' (bs.getD i false) s' := hQ
      rw [eb] at hQ'
      exact wpAny_truthy_bool hQ'
  · have ea : (List.range (bs.map Value.bool).toArray.size).all (fun i => bs.getD i false) = bs.all id := by
      have el : (bs.map Value.bool).toArray.size = bs.length := by simp
      rw [el]
      rw [Bool.eq_iff_iff]
      simp only [List.all_eq_true, List.mem_range, id]
      constructor
      · intro hx b hb
        obtain ⟨i, hi, e⟩ := List.getElem_of_mem hb
        have := hx i hi
        simpa [List.getD, hi, e] using this
      · intro hx i hi
        have := hx bs[i] (List.getElem_mem hi)
        simpa [List.getD, hi] using this
    rw [ea]
    refine ⟨.bl _, H, I.chg fun b o e => k b o ?_ (Heap.get?_push_of_some _ e), rfl, q⟩
    intro z
    have z' : b = s.heap.objs.size := by simpa using z
    exact absurd (Heap.lt_size e) (by rw [z']; exact Nat.lt_irrefl _)

/-! ### sorted, of ints -/
theorem perm_sorted_eq {ns ms : List Int} (p : ns.Perm ms) (h1 : ns.Pairwise (· ≤ ·)) (h2 : ms.Pairwise (· ≤ ·)) : ns = ms := p.eq_of_pairwise (fun _ _ _ _ a b => Int.le_antisymm a b) h1 h2
noncomputable def insI (x : Int) : List Int → List Int
  | [] => [x]
  | y :: r => if x ≤ y then x :: y :: r else y :: insI x r
noncomputable def sortI : List Int → List Int
  | [] => []
  | x :: r => insI x (sortI r)
theorem insI_perm (x : Int) : ∀ r : List Int, (insI x r).Perm (x :: r)
  | [] => .refl _
  | y :: r => by
    unfold insI
    split
    · exact .refl _
    · exact ((insI_perm x r).cons y).trans (.swap x y r)
theorem sortI_perm : ∀ r : List Int, (sortI r).Perm r
  | [] => .refl _
  | x :: r => (insI_perm x (sortI r)).trans ((sortI_perm r).cons x)
theorem insI_sorted (x : Int) : ∀ {r : List Int}, r.Pairwise (· ≤ ·) → (insI x r).Pairwise (· ≤ ·)
  | [], _ => by simp [insI]
  | y :: r, h => by
    unfold insI
    have hy := (List.pairwise_cons.mp h).1
    split
    · rename_i hxy
      refine List.pairwise_cons.mpr ⟨fun z hz => ?_, h⟩
      rcases List.mem_cons.mp hz with e | e
      · rw [e]; exact hxy
      · exact Int.le_trans hxy (hy z e)
    · rename_i hxy
      refine List.pairwise_cons.mpr ⟨fun z hz => ?_, insI_sorted x (List.pairwise_cons.mp h).2⟩
      rcases List.mem_cons.mp ((insI_perm x r).mem_iff.mp hz) with e | e
      · rw [e]; lia
      · exact hy z e
theorem sortI_sorted : ∀ r : List Int, (sortI r).Pairwise (· ≤ ·)
  | [] => .nil
  | x :: r => insI_sorted x (sortI_sorted r)
theorem call_sortedI {X : Cx} : CallR X (.builtin "sorted") (fun xs H Q => ∃ (p : Addr) (ns : List Int), xs = [.ref p] ∧ SqL X.K H p (ns.map V.int) ∧ ns.length < 64 ∧ ∀ l, H l = none → Q (.ref l) (upd H l (.lst ((sortI ns).map V.int)))) := by
  intro pins s σ H xs us Q I r h
  obtain ⟨p, ns, rfl, hq, h64, q⟩ := h
  obtain ⟨u, rfl, ru⟩ := r.one
  cases ru
  obtain ⟨its, rv, pl, hz⟩ := I.list hq
  have hi : IntsAre its ns := intsAre_of rv
  have hl : its.length < 64 := by rw [← rv.length, List.length_map]; exact h64
  refine sorted_ints pl.isList hi hl fun out ns' o1 o2 o3 => ?_
  have e : ns' = sortI ns := perm_sorted_eq (o2.trans (sortI_perm ns).symm) o3 (sortI_sorted ns)
  subst e
  obtain ⟨ep, eo⟩ := sortedAll_at s.heap its out
  have hlen : ((sortI ns).map V.int).length ≤ sizeLine := by
    rw [List.length_map, (sortI_perm ns).length_eq]
    exact Nat.le_of_lt (Nat.lt_trans h64 (by decide))
  have hnew : H (s.heap.objs.size + 1) = none := I.hok.fresh (Nat.le_succ _)
  refine ⟨.ref (s.heap.objs.size + 1), _, I.laid (a := s.heap.objs.size + 1) (o := .lst ((sortI ns).map V.int)) (t' := s.toks) (fun b u e => sortedAll_old e) (Nat.le_succ _) ⟨hlen, out.toList, ep, vals_ints o1, ?_⟩, rfl, q _ hnew⟩
  have e2 : out.toList.toArray = out := by simp
  rw [e2]
  exact eo

/-! ### t + u, whatever they are -/

/-! ### f'{x!r} and a written text behind it -/
noncomputable def tFstr (K : PySem.W.Frag) (tv : TE) (y : Str) : TE := fun σ H Q => tv σ H fun x H1 => ∃ d, Dat K H1 x d ∧ d.showable = true ∧ d.hasDict = false ∧ d.depth ≤ 60 ∧ d.shown.length + y.length ≤ 100000 ∧ ∀ z, Q (.str z) H1
theorem big_line : 100000 ≤ sizeLine := by rw [sizeLine_eq]; decide
theorem repr_dat {X : Cx} {pins : List (Addr × Obj)} {σ : St} {H : Hp} {s : Shared} {x : V} {u : Value} {d : PyData} {Q : Value → Shared → Prop} {E : Value → Shared → Prop} (I : Inv X pins σ H s) (hd : Dat X.K H x d) (rx : RelV x u) (hs : d.showable = true) (hnd : d.hasDict = false)
    (hg : X.A.guards = some []) (hu : X.A.units + 64 < cLine) (h60 : d.depth ≤ 60) (hsz : d.shown.length ≤ 100000) (h : ∀ h' t k, (∀ b o, s.heap.get? b = some o → h'.get? b = some o) → Q (.str d.shown t) { s with heap := h', toks := k }) :
    wpAny (model X.prog X.w) X.A (pyReprObj u) Q E s := by
  have hsz' : d.shown.length ≤ sizeLine := Nat.le_trans hsz big_line
  obtain ⟨as, r⟩ := hd.reads I rx
  have self : ∀ b o, s.heap.get? b = some o → s.heap.get? b = some o := fun _ _ e => e
  cases r with
  | none => exact pyReprObj_none (h s.heap _ _ self)
  | bool b => exact pyReprObj_bool (h s.heap _ _ self)
  | int i t => exact pyReprObj_int (of_decide_eq_true hs) (h s.heap _ _ self)
  | str y t => exact pyReprObj_str (h s.heap _ _ self) hsz'
  | list e1 e2 e3 e4 => exact pyReprObj_of_reads (.list e1 e2 e3 e4) hs (PyData.noDict_hsm hnd) hg (by lia) self h hsz'
  | tuple e1 e2 e3 e4 => exact pyReprObj_of_reads (.tuple e1 e2 e3 e4) hs (PyData.noDict_hsm hnd) hg (by lia) self h hsz'
  | dict e1 e2 e3 e4 e5 => cases hnd
theorem pe_fstr {X : Cx} {v : Expr} {tv : TE} {y : Str} {k : Nat} {p1 p2 pos : Pos} (hg : X.A.guards = some []) (hu : X.A.units + 64 < cLine) (hv : PE X v tv) :
    PE X (.JoinedStr [.FormattedValue v 114 none p1, .Constant (.str y) k p2] pos) (tFstr X.K tv y) := by
  intro pins s σ H Q I h
  refine wpAny_JoinedStr ?_
  show wpAny _ _ (eval (.FormattedValue v 114 none p1) X.env) _ _ s
  refine wpAny_FormattedValue_repr (thn (hv pins s σ H _ I h) fun u s1 ⟨x, H1, I1, r1, d, hd, hs, hnd, h60, hsz, q⟩ => ?_)
  refine repr_dat I1 hd r1 hs hnd hg hu h60 (by lia) fun h' t tk hk => ?_
  have e0 : (Str.empty ++ d.shown).length = d.shown.length := by rw [strLen_append]; show 0 + _ = _; lia
  have fin : ∀ (s2 : Shared) (t2 : Tok), Inv X pins σ H1 s2 → (∃ y' t', Value.str d.shown t2 = .str y' t' ∧ (Str.empty ++ y').length ≤ sizeLine ∧
      Joins (model X.prog X.w) X.A X.xe (evalEach [.Constant (.str y) k p2] X.env) (Str.empty ++ y') (fun out s₁ => out.length ≤ sizeLine ∧ (EP X pins σ Q) (.str out s₁.toks) { s₁ with toks := s₁.toks + 1 }) s2) := fun s2 t2 I2 => by
    refine ⟨d.shown, t2, rfl, by rw [e0]; exact Nat.le_trans (by lia) big_line, ?_⟩
    show wpAny _ _ (eval (.Constant (.str y) k p2) X.env) _ _ s2
    refine Calls.Constant_str ⟨y, _, rfl, by rw [strLen_append, e0]; exact Nat.le_trans hsz big_line, by rw [strLen_append, e0]; exact Nat.le_trans hsz big_line, ?_⟩
    exact ⟨.str _, H1, (I2.tok _).tok _, ⟨_, rfl⟩, q _⟩
  refine wpAny_formatField_str (fin _ _ (I1.chg hk)) (fin _ _ ((I1.chg (t' := tk) hk).tok _)) (Nat.le_trans (by lia) big_line)

/-! ### the signs of a text -/
noncomputable def Its (x : Str) : It := ⟨fun i _ => i < x.cps.size, fun i H v H' => H' = H ∧ ∃ c, x.cps[i]? = some c ∧ v = .str ⟨#[c]⟩, fun i _ => x.cps.size ≤ i⟩
theorem turn_str {P : Program} {w : World} {K : PySem.W.Frag} {y : Str} {yp : Pos} (ty : String) (hty : ty = "str_ascii_iterator" ∨ ty = "str_iterator") (x : Str) (t : Tok) (it : Addr) : Turn P w K (.Name y yp) (Its x) [it] it (fun i h => h.IsStrIter it ty x t i) where
  mem := by simp
  obj := fun i h st b hb => by
    have e : b = it := by simpa using hb
    subst e
    obtain ⟨o, e, c, d⟩ := st
    exact ⟨o, e, fun v z => by rw [d] at z; cases z⟩
  keep := fun i h h' st k => by
    obtain ⟨o, e, r⟩ := st
    exact ⟨o, k it (by simp) o e, r⟩
  item := by
    intro X hP hw hK hc i pins s σ H E I hf st hg
    subst hP hw hK
    have hlt : i < x.cps.size := hg
    obtain ⟨f0, f1, f2, f3, f4, f5⟩ := hf it (by simp)
    have fin : ∀ h', h'.IsStrIter it ty x t (i + 1) → Heap.SameBut it s.heap h' → ∃ u, (some (Value.str ⟨#[x.cps[i]]⟩ s.toks)) = some u ∧
        wpAny (model X.prog X.w) X.A (letOwnedTupleGo (.Name y yp) (.ref it) u) (fun _ s2 => ∃ v H', Inv X pins σ H' s2 ∧ RelV v u ∧ (Its x).yld i H v H' ∧ s2.heap.IsStrIter it ty x t (i + 1) ∧ ∀ b ∈ [it], H' b = none) E { s with heap := h', toks := s.toks + 1 } := fun h' st' sb => by
      refine ⟨_, rfl, ?_⟩
      refine wpAny_pure ⟨.str ⟨#[x.cps[i]]⟩, H, I.turned (t' := s.toks + 1) (fun b o hb e => (sb.2 b hb).trans e) f0 f1 f3 f4 f5, ⟨_, rfl⟩, ⟨rfl, _, by simp [hlt], rfl⟩, st', fun b hb => (hf b hb).1⟩
    rcases hty with e | e
    · subst e
      exact wpAny_pyNext_ascii_item st (c := x.cps[i]) (by simp [hlt]) fin
    · subst e
      exact wpAny_pyNext_wide_item st (c := x.cps[i]) (by simp [hlt]) fin
  done := by
    intro X hP hw hK hc i pins s σ H E I hf st hg
    subst hP hw hK
    have hle : x.cps.size ≤ i := hg
    obtain ⟨f0, f1, f2, f3, f4, f5⟩ := hf it (by simp)
    rcases hty with e | e
    · subst e
      exact wpAny_pyNext_ascii_end (I.ok.hd hc) st (by simp [hle]) fun h' eb => ⟨rfl, I.turned (t' := s.toks) (fun b o hb e => eb b o hb e) f0 f1 f3 f4 f5⟩
    · subst e
      exact wpAny_pyNext_wide_end (I.ok.hd hc) st (by simp [hle]) fun h' eb => ⟨rfl, I.turned (t' := s.toks) (fun b o hb e => eb b o hb e) f0 f1 f3 f4 f5⟩
  self := fun _ _ _ _ _ st h => by
    rcases hty with e | e
    · subst e; exact wpAny_pyIter_striter_ascii st h
    · subst e; exact wpAny_pyIter_striter_wide st h
noncomputable def iStr (tl : TE) : TI := fun σ H R => tl σ H fun x H1 => ∃ z, x = .str z ∧ R (Its z) H1
theorem pi_str {X : Cx} {y : Str} {yp : Pos} {l : Expr} {tl : TE} (hl : PE X l tl) : PI X (.Name y yp) l (iStr tl) := by
  intro pins s σ H R I h
  refine thn (hl pins s σ H _ I h) fun v s1 ⟨x, H1, I1, r1, q1⟩ => ?_
  obtain ⟨z, e, q⟩ := q1
  subst e
  obtain ⟨t, rfl⟩ := r1
  have fp : ∀ b ∈ [s1.heap.objs.size], FpOk X pins H1 b := fun b hb => by
    have e : b = s1.heap.objs.size := by simpa using hb
    subst e
    exact I1.fpOk (Nat.le_refl _) (I1.hok.fresh (Nat.le_refl _))
  cases ha : z.cps.all (· < 128) with
  | true => exact wpAny_pyIter_ascii ha ⟨s1.heap.objs.size, [s1.heap.objs.size], _, _, H1, rfl, I1.kept (t' := s1.toks) fun b o e => Heap.get?_push_of_some _ e, turn_str "str_ascii_iterator" (.inl rfl) z t _, ⟨_, Heap.get?_push_size _ rfl, rfl, rfl⟩, fp, q⟩
  | false => exact wpAny_pyIter_wide ha ⟨s1.heap.objs.size, [s1.heap.objs.size], _, _, H1, rfl, I1.kept (t' := s1.toks) fun b o e => Heap.get?_push_of_some _ e, turn_str "str_iterator" (.inr rfl) z t _, ⟨_, Heap.get?_push_size _ rfl, rfl, rfl⟩, fp, q⟩
end L2

set_option Elab.async false
set_option linter.all false
set_option maxRecDepth 100000
set_option maxHeartbeats 4000000
/-! Data that never changes (scalars and tuples), and a comprehension over a source that stays -/
namespace L2
open PySem PySem.Spec PyProof.Rows PySem.SeqAt
/-- the tuples stay -/
noncomputable def TLe (K : PySem.W.Frag) (H H' : Hp) : Prop := ∀ a xs, SqT K H a xs → SqT K H' a xs
theorem Same.tle {K : PySem.W.Frag} {H H' : Hp} (e : Same H H') : TLe K H H' := fun _ _ h => e.tup h
/-- a list is written -/
theorem TLe.lst {K : PySem.W.Frag} {H : Hp} {D : Addr} {ys : List V} {o : HO} (h : H D = some (.lst ys)) : TLe K H (upd H D o) := fun a xs q => by
  rcases q with (q | ⟨ob, q⟩) | q
  · exact .inl (.inl (by rw [upd_ne (ne_of q h (by intro z; cases z))]; exact q))
  · exact .inl (.inr ⟨ob, by rw [upd_ne (ne_of q h (by intro z; cases z))]; exact q⟩)
  · exact .inr q

/-! ### a source that stays -/
structure Steps (J : It) (H1 : Hp) (n : Nat) (src : Nat → V) : Prop where
  go : ∀ i H', Same H1 H' → i < n → J.go i H'
  yld : ∀ i H' x H2, Same H1 H' → i < n → J.yld i H' x H2 → H2 = H' ∧ x = src i
  stop : ∀ H', Same H1 H' → J.stop n H'

end L2

set_option Elab.async false
set_option linter.all false
set_option maxRecDepth 100000
set_option maxHeartbeats 4000000
/-! A def of the text as it stands; comprehensions with their scope looked at by computation -/
namespace L2
open PySem PySem.Spec PyProof.Rows

/-- a def of the top, found under its name -/
structure FnAt (K : PySem.W.Frag) (mg : Str → Option Value) (x : Str) (st : Stmt) (ps : List Str) (f : Addr) (fd : FuncData) : Prop where
  F : Fun K x x st f fd
  b : Binds K fd ps []
  m : mg x = some (.ref f)
theorem FnAt.k {K : PySem.W.Frag} {mg : Str → Option Value} {x : Str} {st : Stmt} {ps : List Str} {f : Addr} {fd : FuncData} (A : FnAt K mg x st ps f fd) : PySem.W.keepIn K (.ref f) = true := A.F.kp

noncomputable def compOk (N : List Str) (sc : Scope) (N' : List Str) (caps : List (Option Nat)) (scope : Scope) : Bool :=
  decide (scope.kind = .function) && decide N'.Nodup && decide (caps.length = N'.length) && scope.names.all (fun y => decide (y.2 ≠ .cell)) &&
  scope.names.all (fun y => decide (y.2 ≠ .local) || decide (scope.names.lookup y.1 = some .local)) &&
  scope.names.all (fun y => decide (y.2 ≠ .free) || (decide (sc.names.lookup y.1 = some .cell) || decide (sc.names.lookup y.1 = some .free))) &&
  scope.names.all (fun y => decide (y.2 ≠ .free) || decide (scope.names.lookup y.1 ≠ some .local)) &&
  (List.range caps.length).all (fun i => match caps[i]? with
    | some (some j) => (match N'[i]?, N[j]? with
      | some x, some y => decide (x = y) && scope.names.any (fun p => decide (p.1 = x) && decide (p.2 = .free))
      | _, _ => false)
    | _ => true)
theorem CompScope.of {X : Cx} {N N' : List Str} {sc scope : Scope} {caps : List (Option Nat)} (hN : X.N = N) (hS : X.env.scope = sc) (h : compOk N sc N' caps scope = true) : CompScope X N' caps scope := by
  unfold compOk at h
  simp only [Bool.and_eq_true, decide_eq_true_eq, List.all_eq_true, Bool.or_eq_true] at h
  obtain ⟨⟨⟨⟨⟨⟨⟨h1, h2⟩, h3⟩, h4⟩, h5⟩, h6⟩, h7⟩, h8⟩ := h
  refine ⟨h1, h2, h3, h4, fun y hy e => ?_, fun y hy e => ?_, fun x hx => ?_, fun i j e => ?_⟩
  · rcases h5 y hy with z | z
    · exact absurd e z
    · exact z
  · rw [hS]
    rcases h6 y hy with z | z
    · exact absurd e z
    · exact z
  · rcases h7 _ hx with z | z
    · exact absurd rfl z
    · exact z
  · have hi : i < caps.length := (List.getElem?_eq_some_iff.mp e).1
    have := h8 i (List.mem_range.mpr hi)
    rw [e] at this
    dsimp only at this
    split at this
    · rename_i x y e1 e2
      simp only [Bool.and_eq_true, decide_eq_true_eq, List.any_eq_true] at this
      obtain ⟨rfl, ⟨n, k⟩, hm, q1, q2⟩ := this
      have q1' : n = x := q1
      have q2' : k = .free := q2
      subst q1' q2'
      exact ⟨n, e1, by rw [hN]; exact e2, hm⟩
    · cases this
section
variable {X : Cx} {scope : Scope} {tg iter elt : Expr} {ifs : List Expr} {wi : TI} {g : TG} {tc : TT} {te : TE} {pos : Pos}
theorem pe_compS (N : List Str) (st : Stmt) (N' : List Str) (caps : List (Option Nat)) (hN : X.N = N) (hS : X.env.scope = defScope st) (hc : X.calm = true) (hi : PI X tg iter wi) (hg : ∀ C fp s H, PG (blockCx X N' scope C fp s H) tg g)
    (ht : ∀ C fp s H, PIfs (blockCx X N' scope C fp s H) ifs tc) (he : ∀ C fp s H, PE (blockCx X N' scope C fp s H) elt te) (ok : compOk N (defScope st) N' caps scope = true := by decide +kernel)
    (hs : ∀ x, foldedSetIterable iter X.env x = pure x := by intro _; rfl) : PE X (.ListComp elt [⟨tg, iter, ifs, 0⟩] scope pos) (tComp wi caps g tc te) := pe_comp (.of hN hS ok) hc hi hg ht he hs
theorem ps_setCompS {i : Nat} {y : Str} {py spos : Pos} (hn : X.N.Nodup) (hi0 : X.N[i]? = some y) (hx : Loc X.env.scope y) (N : List Str) (st : Stmt) (N' : List Str) (caps : List (Option Nat)) (hN : X.N = N) (hS : X.env.scope = defScope st) (hc : X.calm = true) (hi : PI X tg iter wi)
    (hg : ∀ C fp s H, PG (blockCx X N' scope C fp s H) tg g) (ht : ∀ C fp s H, PIfs (blockCx X N' scope C fp s H) ifs tc) (he : ∀ C fp s H, PE (blockCx X N' scope C fp s H) elt te) (ok : compOk N (defScope st) N' caps scope = true := by decide +kernel)
    (hsw : swapsWith (.ListComp elt [⟨tg, iter, ifs, 0⟩] scope pos) (some (.Name y py)) spos.line X.env = pure true := by rfl) (hs : ∀ x, foldedSetIterable iter X.env x = pure x := by intro _; rfl)
    (hf : X.fn y = true ∨ X.env.scope.names.lookup y = some .local := by first | exact .inl rfl | exact .inr rfl | assumption) : PS X (.Assign [.Name y py] (.ListComp elt [⟨tg, iter, ifs, 0⟩] scope pos) spos) (tAsg (tComp wi caps g tc te) (gName i)) :=
  ps_setComp hn hi0 hx (.of hN hS ok) hc hi hg ht he hsw hs hf
end
/-! ### the rules with the text's part named (a comprehension's block has the same one) -/
section
variable (K : PySem.W.Frag) {X : Cx} (h : X.K = K := by rfl)
include h
end
/-- a test, both ways -/
theorem ifK {b : Bool} {A B : Prop} (h1 : b = true → A) (h2 : b = false → B) : if b = true then A else B := by
  cases b with
  | true => rw [if_pos rfl]; exact h1 rfl
  | false => rw [if_neg Bool.false_ne_true]; exact h2 rfl
end L2
namespace My
open PySem
theorem boot_min : bootBuiltins "min" = some (.builtin "min") := by decide +kernel
theorem boot_max : bootBuiltins "max" = some (.builtin "max") := by decide +kernel
theorem boot_all : bootBuiltins "all" = some (.builtin "all") := by decide +kernel
theorem boot_isinstance : bootBuiltins "isinstance" = some (.builtin "isinstance") := by decide +kernel
theorem boot_int : bootBuiltins "int" = some (.type "int") := by decide +kernel
theorem boot_bool : bootBuiltins "bool" = some (.type "bool") := by decide +kernel
theorem boot_list : bootBuiltins "list" = some (.type "list") := by decide +kernel
theorem boot_dict : bootBuiltins "dict" = some (.type "dict") := by decide +kernel
theorem boot_ValueError : bootBuiltins "ValueError" = some (.type "ValueError") := by decide +kernel
end My

set_option Elab.async false
set_option linter.all false
set_option maxRecDepth 100000
set_option maxHeartbeats 4000000
/-! A list of data that grows; texts of small ints -/
namespace L2
open PySem PySem.Spec PyProof.Rows
/-! ### repr of small ints -/
theorem small_text {i : Int} (h : -100000 ≤ i ∧ i ≤ 100000) : (Str.ofString (toString i)).length ≤ 10 := by
  rw [PySem.ofString_length]
  exact Nat.le_trans (int_text_length_le10 (k := 6) (by decide) (by lia)) (by decide)
theorem small_log {i : Int} (h : -100000 ≤ i ∧ i ≤ 100000) : i.natAbs.log2 < 1920 := by
  have h1 : i.natAbs ≤ 100000 := by lia
  by_cases h0 : i.natAbs = 0
  · rw [h0]; decide
  · exact Nat.lt_of_lt_of_le ((Nat.log2_lt h0).mpr (show i.natAbs < 2 ^ 17 by lia)) (by decide)
theorem show_ints : ∀ {t : List Int}, (∀ n ∈ t, -100000 ≤ n ∧ n ≤ 100000) → PyData.showableAll (t.map .int) = true ∧ PyData.hasDictAll (t.map .int) = false ∧ PyData.depthAll (t.map .int) = 0 ∧ ((PyData.shownAll (t.map .int)).map (·.length)).sum ≤ 10 * t.length ∧ (PyData.shownAll (t.map .int)).length = t.length
  | [], _ => ⟨rfl, rfl, rfl, Nat.le_refl _, rfl⟩
  | i :: r, h => by
    obtain ⟨h1, h2, h3, h4, h5⟩ := show_ints (t := r) fun n hn => h n (List.mem_cons_of_mem _ hn)
    have hi := h i List.mem_cons_self
    refine ⟨?_, ?_, ?_, ?_, ?_⟩
    · show (decide (i.natAbs.log2 < 1920) && PyData.showableAll (r.map .int)) = true
      rw [h1, decide_eq_true (small_log hi)]
      rfl
    · show (false || PyData.hasDictAll (r.map .int)) = false
      rw [h2]
      rfl
    · show max 0 (PyData.depthAll (r.map .int)) = 0
      rw [h3]
      rfl
    · show (Str.ofString (toString i)).length + ((PyData.shownAll (r.map .int)).map (·.length)).sum ≤ 10 * (r.length + 1)
      have := small_text hi
      lia
    · show (PyData.shownAll (r.map .int)).length + 1 = r.length + 1
      lia
theorem show_tup {t : List Int} (h : ∀ n ∈ t, -100000 ≤ n ∧ n ≤ 100000) (hl : t.length ≤ 100) : (PyData.tuple (t.map .int)).showable = true ∧ (PyData.tuple (t.map .int)).hasDict = false ∧ (PyData.tuple (t.map .int)).depth ≤ 60 ∧ (PyData.tuple (t.map .int)).shown.length ≤ 2000 := by
  obtain ⟨h1, h2, h3, h4, h5⟩ := show_ints h
  refine ⟨h1, h2, ?_, ?_⟩
  · show PyData.depthAll (t.map .int) + 1 ≤ 60
    rw [h3]
    decide
  · have e := tupleText_len_le (PyData.shownAll (t.map .int))
    rw [h5] at e
    show (tupleText (PyData.shownAll (t.map .int))).length ≤ 2000
    lia
end L2
namespace L2
open PySem PySem.Spec PyProof.Rows
/-- the goal that k_head leaves, from the law's promise, where its defs may raise -/
theorem walkE {l : PySem.W.OpenLaw} {n k : Nat} {q : Program} {loose : List Str} {XP : (Str → Option Value) → Heap → Prop} {YP : World → Heap → Prop} {d : DefRec} {K : Params → PySem.W.Frag} {sp : PySem.W.Frag → Sp} {x : Str}
    (hn : l.most = some n) (hn2 : n ≤ sizeLine) (hdf : d.params.defaults = []) (hr : Room k callerA)
    (hY : ∀ (w : World) (h : Heap), YP w h → (K w.params).In h)
    (F : ∀ (w : World) (mg : Str → Option Value) (fa : Addr) (h : Heap), (K w.params).In h → h.Ns mainGlobals mg → mg d.name = some (.ref fa) →
      ∃ fd : FuncData, (∀ (s : Shared) (u : Value), BindsTo s fd ⟨[u], []⟩ [(x, u)]) ∧
        ∀ base : Heap, (K w.params).In base → base.Ns mainGlobals mg → FnOk l.prog w (K w.params) mg base (CXE l.prog w) k fa fd [x] (sp (K w.params)))
    (hsp : ∀ (K : PySem.W.Frag) (H : Hp) (a : Addr) (ns : List Int), ns.length ≤ n → Only H → SqL K H a (ns.map V.int) → sp K [.ref a] H (fun v _ => v = .bl true) fun _ _ _ => False) :
    PySem.W.WalkO q loose XP YP l.row.toRowW d [] (fun f vs => PySem.call f vs) :=
  walk_of (K := K) (CX := fun w => CXE l.prog w) (sp := fun w => sp (K w.params)) hn hn2 hdf hr hY F (fun w H a ns h1 h2 h3 => hsp (K w.params) H a ns h1 h2 h3) fun w H s e s' c => by
    obtain ⟨x, C, T, H', rfl, os, bare, un, hok, fl, nx, nT, sx, sT, z⟩ := c
    exact z
end L2

set_option Elab.async false
set_option linter.all false
set_option maxRecDepth 100000
set_option maxHeartbeats 4000000
/-! Keys of dicts: ints and tuples of keys, to any depth below eight -/
namespace L2
open PySem PySem.Spec PyProof.Rows
mutual
inductive KRd (h : Heap) : PyData → Value → Prop
  | int (i : Int) (t : Tok) : KRd h (.int i) (.int i t)
  | tup {a : Addr} {o : Obj} {its : Array Value} {n : Nat} {ds : List PyData} : h.get? a = some o → o.cls = .type "tuple" → o.data = .seq its n → KRds h ds its.toList → KRd h (.tuple ds) (.ref a)
inductive KRds (h : Heap) : List PyData → List Value → Prop
  | nil : KRds h [] []
  | cons {d : PyData} {v : Value} {ds : List PyData} {vs : List Value} : KRd h d v → KRds h ds vs → KRds h (d :: ds) (v :: vs)
end
section
variable {h h' : Heap}
mutual
theorem KRd.inj : ∀ {d e : PyData} {v : Value}, KRd h d v → KRd h e v → d = e
  | _, _, _, .int i t, .int _ _ => rfl
  | _, _, _, .tup g1 g2 g3 r, .tup k1 k2 k3 t => by
    rw [g1] at k1
    cases k1
    rw [g3] at k3
    cases k3
    rw [KRds.inj r t]
theorem KRds.inj : ∀ {d e : List PyData} {v : List Value}, KRds h d v → KRds h e v → d = e
  | _, _, _, .nil, .nil => rfl
  | _, _, _, .cons a r, .cons b t => by rw [KRd.inj a b, KRds.inj r t]
end
mutual
/-- tuples stay where only a dict changes -/
theorem KRd.keep {q : Addr} {oq : Obj} {es : Array DictEntry} {ep : Nat} (g : h.get? q = some oq) (gd : oq.data = .dict es ep) (s : Heap.SameBut q h h') : ∀ {d : PyData} {v : Value}, KRd h d v → KRd h' d v
  | _, _, .int i t => .int i t
  | _, _, .tup (a := a) g1 g2 g3 r => by
    have ne : a ≠ q := fun e => by
      subst e
      rw [g] at g1
      cases g1
      rw [gd] at g3
      cases g3
    exact .tup ((s.2 a ne).trans g1) g2 g3 (KRds.keep g gd s r)
theorem KRds.keep {q : Addr} {oq : Obj} {es : Array DictEntry} {ep : Nat} (g : h.get? q = some oq) (gd : oq.data = .dict es ep) (s : Heap.SameBut q h h') : ∀ {d : List PyData} {v : List Value}, KRds h d v → KRds h' d v
  | _, _, .nil => .nil
  | _, _, .cons a r => .cons (KRd.keep g gd s a) (KRds.keep g gd s r)
end
mutual
theorem KRd.reads : ∀ {d : PyData} {v : Value}, KRd h d v → ∃ as, Reads h v d as
  | _, _, .int i t => ⟨_, .int i t⟩
  | _, _, .tup g1 g2 g3 r => by
    obtain ⟨as, q⟩ := KRds.reads r
    exact ⟨_, .tuple g1 g2 g3 q⟩
theorem KRds.reads : ∀ {d : List PyData} {v : List Value}, KRds h d v → ∃ as, ReadsAll h v d as
  | _, _, .nil => ⟨_, .nil⟩
  | _, _, .cons a r => by
    obtain ⟨as, q⟩ := KRd.reads a
    obtain ⟨bs, t⟩ := KRds.reads r
    exact ⟨_, .cons q t⟩
end
end
/-! ### the hash -/
mutual
noncomputable def hD : PyData → Int
  | .int i => hashInt i
  | .tuple ds => reduceHash (Builtin.Tuple.tupleHashOf (hDs ds))
  | .none => 0
  | .bool _ => 0
  | .str _ => 0
  | .list _ => 0
  | .dict _ => 0
noncomputable def hDs : List PyData → List Int
  | [] => []
  | d :: r => hD d :: hDs r
end
mutual
noncomputable def drD : PyData → Nat
  | .tuple ds => drDs ds + 1
  | .int _ => 1
  | .none => 1
  | .bool _ => 1
  | .str _ => 1
  | .list _ => 1
  | .dict _ => 1
noncomputable def drDs : List PyData → Nat
  | [] => 0
  | d :: r => drD d + drDs r
end
theorem depth_cons (d : PyData) (r : List PyData) : PyData.depthAll (d :: r) = max d.depth (PyData.depthAll r) := rfl
section
variable {prog : Program} {w : World}
mutual
theorem hash_of : ∀ {d : PyData} {v : Value} {A : Around} {E : Value → Shared → Prop} {s : Shared} {Q : Int → Shared → Prop}, KRd s.heap d v → A.units + d.depth < cLine → Q (hD d) { s with toks := s.toks + drD d } → wpAny (model prog w) A (pyHash v) Q E s
  | _, _, A, E, s, Q, .int i t, hu, q => (intKind prog w).pyHash (by show decide _ = true; simp) q
  | _, _, A, E, s, Q, .tup (a := a) (o := o) (its := its) (n := n) (ds := ds) g1 g2 g3 r, hu, q => by
    have hT : s.TypeIs (.ref a) "tuple" := ⟨o, g1, g2⟩
    have hu0 : A.units < cLine := by lia
    unfold pyHash
    first | unfold pyHashByItsType | skip
    first | refine wpAny_bind (wpAny_cRoomFor_or (.inr hu0) ?_) | skip
    refine wpAny_bind (wpAny_specialOf hT PySem.F.slot_tuple_hash.lookup ?_)
    show wpAny _ _ (if (some (Value.builtin "tuple.__hash__") == some Value.none) = true then _ else _) Q E s
    rw [if_neg (by rw [beq_builtin_none]; exact Bool.false_ne_true)]
    refine wpAny_bind (wpAny_specialOf hT PySem.F.slot_tuple_hash.lookup ?_)
    refine wpAny_bind (wpAny_callSpecialIfBoundUnlessNone?_slot hT PySem.F.slot_tuple_hash (wpAny_call_entry PySem.F.slot_tuple_hash hT PySem.F.entry_tuple_hash ?_ (PySem.F.args_tuple_hash_1 _)))
    show wpAny _ _ (Builtin.Tuple.tupleItemsOf (.ref a) >>= _) _ _ s
    refine wpAny_bind (wpAny_tupleItemsOf g1 g3 (wpAny_bind ?_))
    rw [← Array.forIn_toList]
    have du : A.in1.units + PyData.depthAll ds < cLine := by
      have e : (PyData.tuple ds).depth = PyData.depthAll ds + 1 := rfl
      rw [e] at hu
      show A.units + 1 + _ < cLine
      lia
    refine hash_all (fun v b => rfl) r du ?_
    show wpAny _ _ (retInt (Builtin.Tuple.tupleHashOf (#[] ++ (hDs ds).toArray).toList)) _ _ _
    have e0 : (#[] ++ (hDs ds).toArray).toList = hDs ds := by simp
    rw [e0]
    refine wpAny_ret_mkInt ?_
    have q' : Q (reduceHash (Builtin.Tuple.tupleHashOf (hDs ds))) { s with toks := s.toks + (drDs ds + 1) } := q
    generalize Builtin.Tuple.tupleHashOf (hDs ds) = m at q' ⊢
    show wpAny _ _ (if (decide (-(2 : Int) ^ 63 ≤ m) && decide (m < 2 ^ 63)) = true then _ else _) Q E _
    unfold reduceHash at q'
    by_cases hr : (decide (-(2 : Int) ^ 63 ≤ m) && decide (m < 2 ^ 63)) = true
    · rw [if_pos hr] at q' ⊢
      exact wpAny_pure q'
    · rw [if_neg hr] at q' ⊢
      exact wpAny_bind (wpAny_rule (wpAny_pure q'))
theorem hash_all : ∀ {ds : List PyData} {vs : List Value} {A : Around} {E : Value → Shared → Prop} {s : Shared} {b : Array Int} {f : Value → Array Int → Sem (ForInStep (Array Int))} {Q : Array Int → Shared → Prop}, (∀ v b, f v b = do let h ← pyHash v; pure (ForInStep.yield (b.push h))) → KRds s.heap ds vs → A.units + PyData.depthAll ds < cLine →
    Q (b ++ (hDs ds).toArray) { s with toks := s.toks + drDs ds } → wpAny (model prog w) A (forIn vs b f) Q E s
  | _, _, A, E, s, b, f, Q, hf, .nil, hu, q => by
    rw [List.forIn_nil]
    exact wpAny_pure (by simpa [hDs, drDs] using q)
  | _, _, A, E, s, b, f, Q, hf, .cons (d := d) (ds := ds) c r, hu, q => by
    rw [List.forIn_cons, hf]
    rw [depth_cons] at hu
    have h1 : A.units + d.depth < cLine := Nat.lt_of_le_of_lt (Nat.add_le_add_left (Nat.le_max_left _ _) _) hu
    have h2 : A.units + PyData.depthAll ds < cLine := Nat.lt_of_le_of_lt (Nat.add_le_add_left (Nat.le_max_right _ _) _) hu
    refine wpAny_bind (wpAny_bind (hash_of c h1 (wpAny_pure ?_)))
    refine hash_all (s := { s with toks := s.toks + drD d }) hf r h2 ?_
    have e1 : (b.push (hD d) ++ (hDs ds).toArray) = b ++ (hDs (d :: ds)).toArray := by simp [hDs]
    have e2 : s.toks + drD d + drDs ds = s.toks + drDs (d :: ds) := by simp [drDs, Nat.add_assoc]
    rw [e1]
    show Q _ { s with toks := s.toks + drD d + drDs ds }
    rw [e2]
    exact q
end
end
/-! ### == of keys; keys are quiet -/
mutual
noncomputable def keyB : PyData → Bool
  | .int _ => true
  | .tuple ds => keyBs ds
  | .none => false
  | .bool _ => false
  | .str _ => false
  | .list _ => false
  | .dict _ => false
noncomputable def keyBs : List PyData → Bool
  | [] => true
  | d :: r => keyB d && keyBs r
end
mutual
theorem KRd.key {h : Heap} : ∀ {d : PyData} {v : Value}, KRd h d v → keyB d = true
  | _, _, .int i t => rfl
  | _, _, .tup _ _ _ r => KRds.key r
theorem KRds.key {h : Heap} : ∀ {d : List PyData} {v : List Value}, KRds h d v → keyBs d = true
  | _, _, .nil => rfl
  | _, _, .cons (d := d) (ds := ds) a r => by show (keyB d && keyBs ds) = true; rw [KRd.key a, KRds.key r]; rfl
end
mutual
theorem key_lay : ∀ {d : PyData}, keyB d = true → d.canLay0 = true
  | .int _, _ => rfl
  | .tuple ds, h => keys_lay (ds := ds) h
  | .none, h => by cases h
  | .bool _, h => by cases h
  | .str _, h => by cases h
  | .list _, h => by cases h
  | .dict _, h => by cases h
theorem keys_lay : ∀ {ds : List PyData}, keyBs ds = true → PyData.canLayAll0 ds = true
  | [], _ => rfl
  | d :: r, h => by
    have h' : (keyB d && keyBs r) = true := h
    rw [Bool.and_eq_true] at h'
    show (d.canLay0 && PyData.canLayAll0 r) = true
    rw [key_lay h'.1, keys_lay h'.2]
    rfl
end
mutual
theorem key_eqv : ∀ {d e : PyData}, keyB d = true → keyB e = true → (PyData.eqv d e = true ↔ d = e)
  | .int a, .int b, _, _ => by
    rw [eqv_int]
    simp
  | .int _, .tuple _, _, _ => ⟨fun h => (by cases h), fun h => (by cases h)⟩
  | .tuple _, .int _, _, _ => ⟨fun h => (by cases h), fun h => (by cases h)⟩
  | .tuple xs, .tuple ys, h1, h2 => by
    have := keys_eqv (xs := xs) (ys := ys) h1 h2
    show PyData.eqvAll xs ys = true ↔ _
    rw [this]
    simp
  | .none, _, h, _ => by cases h
  | .bool _, _, h, _ => by cases h
  | .str _, _, h, _ => by cases h
  | .list _, _, h, _ => by cases h
  | .dict _, _, h, _ => by cases h
  | .int _, .none, _, h => by cases h
  | .int _, .bool _, _, h => by cases h
  | .int _, .str _, _, h => by cases h
  | .int _, .list _, _, h => by cases h
  | .int _, .dict _, _, h => by cases h
  | .tuple _, .none, _, h => by cases h
  | .tuple _, .bool _, _, h => by cases h
  | .tuple _, .str _, _, h => by cases h
  | .tuple _, .list _, _, h => by cases h
  | .tuple _, .dict _, _, h => by cases h
theorem keys_eqv : ∀ {xs ys : List PyData}, keyBs xs = true → keyBs ys = true → (PyData.eqvAll xs ys = true ↔ xs = ys)
  | [], [], _, _ => by simp [PyData.eqvAll]
  | [], _ :: _, _, _ => by simp [PyData.eqvAll]
  | _ :: _, [], _, _ => by simp [PyData.eqvAll]
  | x :: xs, y :: ys, h1, h2 => by
    have h1' : (keyB x && keyBs xs) = true := h1
    have h2' : (keyB y && keyBs ys) = true := h2
    rw [Bool.and_eq_true] at h1' h2'
    show (PyData.eqv x y && PyData.eqvAll xs ys) = true ↔ _
    rw [Bool.and_eq_true, key_eqv h1'.1 h2'.1, keys_eqv h1'.2 h2'.2]
    simp
end
section
variable {prog : Program} {w : World}
mutual
theorem quiet_of : ∀ {d : PyData} {v : Value} {n : Nat} {A : Around} {E : Value → Shared → Prop} {s : Shared} {Q : Bool → Shared → Prop}, KRd s.heap d v → d.depth ≤ n → Q true s → wpAny (model prog w) A (eqIsQuiet n v) Q E s
  | _, _, n, A, E, s, Q, .int i t, _, q => by
    rw [eqIsQuiet_byValue n (v := .int i t) rfl]
    exact wpAny_pure q
  | _, _, 0, A, E, s, Q, .tup (ds := ds) g1 g2 g3 r, hn, q => absurd hn (by show ¬ PyData.depthAll ds + 1 ≤ 0; lia)
  | _, _, n + 1, A, E, s, Q, .tup (a := a) (o := o) (its := its) (n := m) (ds := ds) g1 g2 g3 r, hn, q => by
    have hT : s.TypeIs (.ref a) "tuple" := ⟨o, g1, g2⟩
    unfold eqIsQuiet
    refine wpAny_bind (wpAny_specialOf hT PySem.F.slot_tuple_eq.lookup ?_)
    show wpAny _ _ (isInstance (.ref a) (.type "tuple") >>= _) _ _ s
    refine wpAny_bind (wpAny_isInstance hT isSubtype_tuple_tuple ?_)
    simp only [Bool.not_true, Bool.false_eq_true, if_false]
    refine wpAny_bind (wpAny_seqItems g1 g3 (wpAny_bind ?_))
    show wpAny _ _ (forIn its _ _) _ _ s
    rw [← Array.forIn_toList]
    refine quiet_all (n := n) (fun v b => rfl) r (by have e : (PyData.tuple ds).depth = PyData.depthAll ds + 1 := rfl; rw [e] at hn; lia) ?_
    exact wpAny_pure q
theorem quiet_all : ∀ {ds : List PyData} {vs : List Value} {n : Nat} {A : Around} {E : Value → Shared → Prop} {s : Shared} {f : Value → Option Bool × PUnit → Sem (ForInStep (Option Bool × PUnit))} {Q : Option Bool × PUnit → Shared → Prop}, (∀ v b, f v b = do let z ← eqIsQuiet n v; if (!z) = true then pure (ForInStep.done (some false, ())) else pure (ForInStep.yield (none, ()))) → KRds s.heap ds vs → PyData.depthAll ds ≤ n →
    Q (none, ()) s → wpAny (model prog w) A (forIn vs (none, ()) f) Q E s
  | _, _, n, A, E, s, f, Q, hf, .nil, hn, q => by
    rw [List.forIn_nil]
    exact wpAny_pure q
  | _, _, n, A, E, s, f, Q, hf, .cons (d := d) (ds := ds) c r, hn, q => by
    rw [List.forIn_cons, hf]
    rw [depth_cons] at hn
    refine wpAny_bind (wpAny_bind (quiet_of c (Nat.le_trans (Nat.le_max_left _ _) hn) ?_))
    rw [if_neg (by decide)]
    exact wpAny_pure (quiet_all hf r (Nat.le_trans (Nat.le_max_right _ _) hn) q)
end
end
/-! ### keys, as the dict's rules want them -/
noncomputable instance decKey : DecidableEq PyData := fun _ _ => Classical.propDecidable _
noncomputable def keyKindD (prog : Program) (w : World) : HeapKind prog w PyData where
  is := fun h d a => KRd h d (.ref a) ∧ d.depth ≤ 6
  hash := hD
  draws := drD
  room := fun A => A.units + 16 < cLine
  inj := fun a b => a.1.inj b.1
  keeps := fun a g gd s => ⟨a.1.keep g gd s, a.2⟩
  pyHash := fun hu a q => hash_of a.1 (by have := a.2; lia) q
  eqBool := fun {A E s x y a b Q} hu hx hy q => by
    obtain ⟨as, ra⟩ := hx.1.reads
    obtain ⟨bs, rb⟩ := hy.1.reads
    have e : PyData.eqv x y = decide (x = y) := by
      have := key_eqv hx.1.key hy.1.key
      by_cases h : x = y
      · rw [decide_eq_true h]; exact this.mpr h
      · rw [decide_eq_false h]
        cases q2 : PyData.eqv x y with
        | false => rfl
        | true => exact absurd (this.mp q2) h
    refine PySem.SeqAt.eqBoolOverData prog w A E s _ _ x y as bs Q ra rb (key_lay hx.1.key) (key_lay hy.1.key) ?_ (by rw [e]; exact q)
    have h1 := hx.2
    have h2 : min x.depth y.depth ≤ x.depth := Nat.min_le_left _ _
    have h3 : A.units + 16 < cLine := hu
    lia
  quiet := fun a q => quiet_of a.1 (Nat.le_trans a.2 (by decide)) q
end L2

set_option Elab.async false
set_option linter.all false
set_option maxRecDepth 100000
set_option maxHeartbeats 4000000
/-! Values as data, part 1: what represents what, the state of a body as named data and owned lists, what an expression is worth -/
namespace L2
open PySem PySem.Spec PyProof.Rows
section
variable {K : PySem.W.Frag} {A B : Option Addr → Prop} {H H' H1 : Hp} {v : V} {d : PyData}
/-- a list that nothing can write -/
noncomputable def Fz (K : PySem.W.Frag) (H : Hp) (a : Addr) (xs : List V) : Prop := (∃ o, H a = some (.frz o (.lst xs))) ∨ ∃ (o : Obj) (its : Array Value) (n : Nat), K.lookup a = some o ∧ o.cls = .type "list" ∧ o.dict = none ∧ o.data = .seq its n ∧ its.size ≤ sizeLine ∧ Vals xs its.toList
/-- the list at a may be read; A (some a): a tracked one, A none: one that nothing can write -/
noncomputable def SqA (K : PySem.W.Frag) (A : Option Addr → Prop) (H : Hp) (a : Addr) (xs : List V) : Prop := (H a = some (.lst xs) ∧ A (some a)) ∨ (Fz K H a xs ∧ A none)
theorem SqA.sq {a : Addr} {xs : List V} (h : SqA K A H a xs) : SqL K H a xs := by
  rcases h with h | ⟨h | h, _⟩
  · exact .inl (.inl h.1)
  · exact .inl (.inr h)
  · exact .inr h
theorem Same.fz {a : Addr} {xs : List V} (e : Same H H') (h : Fz K H a xs) : Fz K H' a xs := h.imp (fun ⟨o, q⟩ => ⟨o, e _ _ q⟩) id
/-- an entry of a dict: its key, where the key lies, its value -/
noncomputable abbrev DEnt := PyData × Addr × Value
noncomputable def entD (x : DEnt) : DictEntry := ⟨hD x.1, .ref x.2.1, x.2.2⟩
/-- a dict, by its one object -/
noncomputable def DCell (a : Addr) (xs : List DEnt) (ep : Nat) : HO := .ext fun h => ∃ o es, h.get? a = some o ∧ o.ExactDict ∧ o.data = .dict es ep ∧ es.toList = xs.map entD
structure DOk (H : Hp) (a : Addr) (xs : List DEnt) : Prop where
  at' : ∃ ep, H a = some (DCell a xs ep)
  nd : (xs.map (·.1)).Nodup
  len : xs.length ≤ 100000
  sm : (a == sysModules) = false
theorem DOk.up {H H' : Hp} {a : Addr} {xs : List DEnt} (h : DOk H a xs) (e : ∀ ep, H a = some (DCell a xs ep) → H' a = some (DCell a xs ep)) : DOk H' a xs := ⟨h.at'.imp e, h.nd, h.len, h.sm⟩
mutual
inductive Rep (K : PySem.W.Frag) (A : Option Addr → Prop) (H : Hp) : V → PyData → Prop
  | non : Rep K A H .non .none
  | bl (b : Bool) : Rep K A H (.bl b) (.bool b)
  | int (i : Int) : Rep K A H (.int i) (.int i)
  | str (x : Str) : Rep K A H (.str x) (.str x)
  | tup {a : Addr} {xs : List V} {ds : List PyData} : SqT K H a xs → RepAll K A H xs ds → Rep K A H (.ref a) (.tuple ds)
  | lst {a : Addr} {xs : List V} {ds : List PyData} : SqA K A H a xs → RepAll K A H xs ds → Rep K A H (.ref a) (.list ds)
  | dct {a : Addr} {xs : List DEnt} {kvs : List (PyData × PyData)} : DOk H a xs → A (some a) → RepKV K A H xs kvs → Rep K A H (.ref a) (.dict kvs)
inductive RepAll (K : PySem.W.Frag) (A : Option Addr → Prop) (H : Hp) : List V → List PyData → Prop
  | nil : RepAll K A H [] []
  | cons {x : V} {xs : List V} {d : PyData} {ds : List PyData} : Rep K A H x d → RepAll K A H xs ds → RepAll K A H (x :: xs) (d :: ds)
inductive RepKV (K : PySem.W.Frag) (A : Option Addr → Prop) (H : Hp) : List DEnt → List (PyData × PyData) → Prop
  | nil : RepKV K A H [] []
  | cons {k : PyData} {ka : Addr} {v : Value} {y : V} {d : PyData} {xs : List DEnt} {kvs : List (PyData × PyData)} : Rep K A H (.ref ka) k → keyB k = true → k.depth ≤ 6 → RelV y v → Rep K A H y d → RepKV K A H xs kvs → RepKV K A H ((k, ka, v) :: xs) ((k, d) :: kvs)
end
/-- what A speaks of stays -/
structure Ext (K : PySem.W.Frag) (A : Option Addr → Prop) (H H' : Hp) : Prop where
  tup : TLe K H H'
  lst : ∀ a xs, SqA K A H a xs → SqA K A H' a xs
  dct : ∀ a xs ep, H a = some (DCell a xs ep) → A (some a) → H' a = some (DCell a xs ep)
theorem Same.ext (e : Same H H') : Ext K A H H' := ⟨e.tle, fun _ _ h => h.imp (fun q => ⟨e _ _ q.1, q.2⟩) fun q => ⟨e.fz q.1, q.2⟩, fun _ _ _ h _ => e _ _ h⟩
/-- a list that A does not speak of is written -/
theorem Ext.put {a : Addr} {ys : List V} {o : HO} (h : H a = some (.lst ys)) (hA : ¬ A (some a)) : Ext K A H (upd H a o) := by
  refine ⟨TLe.lst h, fun b xs q => ?_, fun b xs ep q qa => by
    have ne : b ≠ a := fun e => hA (e ▸ qa)
    rw [upd_ne ne]; exact q⟩
  rcases q with ⟨q, qa⟩ | ⟨q, qa⟩
  · have ne : b ≠ a := fun e => hA (e ▸ qa)
    exact .inl ⟨by rw [upd_ne ne]; exact q, qa⟩
  · refine .inr ⟨?_, qa⟩
    rcases q with ⟨ob, q⟩ | q
    · exact .inl ⟨ob, by rw [upd_ne (ne_of q h (by intro z; cases z))]; exact q⟩
    · exact .inr q
/-- a dict that A does not speak of is written -/
theorem Ext.putD {a : Addr} {φ : Heap → Prop} {o : HO} (h : H a = some (.ext φ)) (hA : ¬ A (some a)) : Ext K A H (upd H a o) := by
  refine ⟨fun b xs q => ?_, fun b xs q => ?_, fun b xs ep q qa => by
    have ne : b ≠ a := fun e => hA (e ▸ qa)
    rw [upd_ne ne]; exact q⟩
  · rcases q with (q | ⟨ob, q⟩) | q
    · exact .inl (.inl (by rw [upd_ne (ne_of q h (by intro z; cases z))]; exact q))
    · exact .inl (.inr ⟨ob, by rw [upd_ne (ne_of q h (by intro z; cases z))]; exact q⟩)
    · exact .inr q
  · rcases q with ⟨q, qa⟩ | ⟨q, qa⟩
    · have ne : b ≠ a := fun e => hA (e ▸ qa)
      exact .inl ⟨by rw [upd_ne ne]; exact q, qa⟩
    · refine .inr ⟨?_, qa⟩
      rcases q with ⟨ob, q⟩ | q
      · exact .inl ⟨ob, by rw [upd_ne (ne_of q h (by intro z; cases z))]; exact q⟩
      · exact .inr q
mutual
theorem Rep.mono (e : Ext K A H H') : ∀ {v : V} {d : PyData}, Rep K A H v d → Rep K A H' v d
  | _, _, .non => .non
  | _, _, .bl b => .bl b
  | _, _, .int i => .int i
  | _, _, .str x => .str x
  | _, _, .tup h r => .tup (e.tup _ _ h) (RepAll.mono e r)
  | _, _, .lst h r => .lst (e.lst _ _ h) (RepAll.mono e r)
  | _, _, .dct h a r => .dct (h.up fun ep q => e.dct _ _ ep q a) a (RepKV.mono e r)
theorem RepAll.mono (e : Ext K A H H') : ∀ {v : List V} {d : List PyData}, RepAll K A H v d → RepAll K A H' v d
  | _, _, .nil => .nil
  | _, _, .cons h r => .cons (Rep.mono e h) (RepAll.mono e r)
theorem RepKV.mono (e : Ext K A H H') : ∀ {v : List DEnt} {d : List (PyData × PyData)}, RepKV K A H v d → RepKV K A H' v d
  | _, _, .nil => .nil
  | _, _, .cons h1 h2 h3 h4 h5 r => .cons (Rep.mono e h1) h2 h3 h4 (Rep.mono e h5) (RepKV.mono e r)
end
mutual
theorem Rep.weak (e : ∀ a, A a → B a) : ∀ {v : V} {d : PyData}, Rep K A H v d → Rep K B H v d
  | _, _, .non => .non
  | _, _, .bl b => .bl b
  | _, _, .int i => .int i
  | _, _, .str x => .str x
  | _, _, .tup h r => .tup h (RepAll.weak e r)
  | _, _, .lst h r => .lst (h.imp (fun q => ⟨q.1, e _ q.2⟩) fun q => ⟨q.1, e _ q.2⟩) (RepAll.weak e r)
  | _, _, .dct h a r => .dct h (e _ a) (RepKV.weak e r)
theorem RepAll.weak (e : ∀ a, A a → B a) : ∀ {v : List V} {d : List PyData}, RepAll K A H v d → RepAll K B H v d
  | _, _, .nil => .nil
  | _, _, .cons h r => .cons (Rep.weak e h) (RepAll.weak e r)
theorem RepKV.weak (e : ∀ a, A a → B a) : ∀ {v : List DEnt} {d : List (PyData × PyData)}, RepKV K A H v d → RepKV K B H v d
  | _, _, .nil => .nil
  | _, _, .cons h1 h2 h3 h4 h5 r => .cons (Rep.weak e h1) h2 h3 h4 (Rep.weak e h5) (RepKV.weak e r)
end
mutual
theorem Rep.dat0 : ∀ {v : V} {d : PyData}, Rep K A H v d → d.hasDict = false → Dat K H v d
  | _, _, .non, _ => .non
  | _, _, .bl b, _ => .bl b
  | _, _, .int i, _ => .int i
  | _, _, .str x, _ => .str x
  | _, _, .tup h r, e => .tup h (RepAll.dat0 r e)
  | _, _, .lst h r, e => .lst h.sq (RepAll.dat0 r e)
  | _, _, .dct _ _ _, e => by cases e
theorem RepAll.dat0 : ∀ {v : List V} {d : List PyData}, RepAll K A H v d → PyData.hasDictAll d = false → DatAll K H v d
  | _, _, .nil, _ => .nil
  | _, _, .cons (d := d) (ds := ds) h r, e => by
    have e' : (d.hasDict || PyData.hasDictAll ds) = false := e
    rw [Bool.or_eq_false_iff] at e'
    exact .cons (Rep.dat0 h e'.1) (RepAll.dat0 r e'.2)
end
mutual
theorem lay_nodict : ∀ {d : PyData}, d.canLay0 = true → d.hasDict = false
  | .none, _ => rfl
  | .bool _, _ => rfl
  | .int _, _ => rfl
  | .str _, _ => rfl
  | .list xs, h => lays_nodict (ds := xs) h
  | .tuple xs, h => lays_nodict (ds := xs) h
  | .dict _, h => by cases h
theorem lays_nodict : ∀ {ds : List PyData}, PyData.canLayAll0 ds = true → PyData.hasDictAll ds = false
  | [], _ => rfl
  | d :: r, h => by
    have h' : (d.canLay0 && PyData.canLayAll0 r) = true := h
    rw [Bool.and_eq_true] at h'
    show (d.hasDict || PyData.hasDictAll r) = false
    rw [lay_nodict h'.1, lays_nodict h'.2]
    rfl
end
theorem RepAll.length : ∀ {xs : List V} {ds : List PyData}, RepAll K A H xs ds → xs.length = ds.length
  | _, _, .nil => rfl
  | _, _, .cons _ r => by rw [List.length_cons, List.length_cons, RepAll.length r]
theorem RepAll.append : ∀ {xs ys : List V} {ds es : List PyData}, RepAll K A H xs ds → RepAll K A H ys es → RepAll K A H (xs ++ ys) (ds ++ es)
  | _, _, _, _, .nil, s => s
  | _, _, _, _, .cons h r, s => .cons h (RepAll.append r s)
theorem RepAll.get : ∀ {xs : List V} {ds : List PyData} {i : Nat} {d : PyData}, RepAll K A H xs ds → ds[i]? = some d → ∃ x, xs[i]? = some x ∧ Rep K A H x d
  | _, _, _, _, .nil, e => by simp at e
  | _, _, 0, _, .cons h _, e => by simp at e; subst e; exact ⟨_, rfl, h⟩
  | _, _, i + 1, d, .cons _ r, e => by
    obtain ⟨x, h1, h2⟩ := RepAll.get (i := i) (d := d) r (by simpa using e)
    exact ⟨x, by simpa using h1, h2⟩
theorem RepAll.get' : ∀ {xs : List V} {ds : List PyData} {i : Nat} {x : V}, RepAll K A H xs ds → xs[i]? = some x → ∃ d, ds[i]? = some d ∧ Rep K A H x d
  | _, _, _, _, .nil, e => by simp at e
  | _, _, 0, _, .cons h _, e => by simp at e; subst e; exact ⟨_, rfl, h⟩
  | _, _, i + 1, x, .cons _ r, e => by
    obtain ⟨d, h1, h2⟩ := RepAll.get' (i := i) (x := x) r (by simpa using e)
    exact ⟨d, by simpa using h1, h2⟩
theorem RepAll.take : ∀ {xs : List V} {ds : List PyData} (n : Nat), RepAll K A H xs ds → RepAll K A H (xs.take n) (ds.take n)
  | _, _, 0, _ => .nil
  | _, _, _ + 1, .nil => .nil
  | _, _, n + 1, .cons h r => .cons h (RepAll.take n r)
theorem RepAll.drop : ∀ {xs : List V} {ds : List PyData} (n : Nat), RepAll K A H xs ds → RepAll K A H (xs.drop n) (ds.drop n)
  | _, _, 0, r => r
  | _, _, _ + 1, .nil => .nil
  | _, _, n + 1, .cons _ r => RepAll.drop n r
theorem RepAll.ints : ∀ ns : List Int, RepAll K A H (ns.map V.int) (ns.map PyData.int)
  | [] => .nil
  | _ :: r => .cons (.int _) (RepAll.ints r)
theorem RepAll.of_map {α : Type} {f : α → PyData} {g : α → V} (hh : ∀ (a : α) (v : V), Rep K A H v (f a) → v = g a) : ∀ {ns : List α} {xs : List V}, RepAll K A H xs (ns.map f) → xs = ns.map g
  | [], _, .nil => rfl
  | n :: r, _, .cons h t => by rw [List.map_cons, ← RepAll.of_map hh t, hh _ _ h]
theorem RepAll.of_ints {ns : List Int} {xs : List V} (h : RepAll K A H xs (ns.map PyData.int)) : xs = ns.map V.int := RepAll.of_map (fun a v h => by cases h; rfl) h
theorem RepAll.of_bools {ns : List Bool} {xs : List V} (h : RepAll K A H xs (ns.map PyData.bool)) : xs = ns.map V.bl := RepAll.of_map (fun a v h => by cases h; rfl) h
theorem RepAll.of_strs {ns : List Str} {xs : List V} (h : RepAll K A H xs (ns.map PyData.str)) : xs = ns.map V.str := RepAll.of_map (fun a v h => by cases h; rfl) h
end
/-! ### data without lists -/
mutual
noncomputable def immB : PyData → Bool
  | .list _ => false
  | .dict _ => false
  | .tuple ds => immAll ds
  | .none => true
  | .bool _ => true
  | .int _ => true
  | .str _ => true
noncomputable def immAll : List PyData → Bool
  | [] => true
  | d :: r => immB d && immAll r
end
class Imm (d : PyData) : Prop where
  ok : immB d = true
class ImmL (ds : List PyData) : Prop where
  ok : immAll ds = true
noncomputable instance immNon : Imm .none := ⟨rfl⟩
noncomputable instance immBool (b : Bool) : Imm (.bool b) := ⟨rfl⟩
noncomputable instance immInt (b : Int) : Imm (.int b) := ⟨rfl⟩
noncomputable instance immStr (b : Str) : Imm (.str b) := ⟨rfl⟩
noncomputable instance immTup (ds : List PyData) [h : ImmL ds] : Imm (.tuple ds) := ⟨h.ok⟩
noncomputable instance immNil : ImmL [] := ⟨rfl⟩
noncomputable instance immCons (d : PyData) (ds : List PyData) [h : Imm d] [t : ImmL ds] : ImmL (d :: ds) := ⟨by show (immB d && immAll ds) = true; rw [h.ok, t.ok]; rfl⟩
theorem immAll_map {α : Type} {f : α → PyData} (h : ∀ a, immB (f a) = true) : ∀ xs : List α, immAll (xs.map f) = true
  | [] => rfl
  | x :: r => by show (immB (f x) && immAll (r.map f)) = true; rw [h x, immAll_map h r]; rfl
noncomputable instance immMap {α : Type} (f : α → PyData) (xs : List α) [h : ∀ a, Imm (f a)] : ImmL (xs.map f) := ⟨immAll_map (fun a => (h a).ok) xs⟩
section
variable {K : PySem.W.Frag} {A B : Option Addr → Prop} {H : Hp}
mutual
theorem Rep.imm0 : ∀ {v : V} {d : PyData}, Rep K A H v d → immB d = true → Rep K B H v d
  | _, _, .non, _ => .non
  | _, _, .bl b, _ => .bl b
  | _, _, .int i, _ => .int i
  | _, _, .str x, _ => .str x
  | _, _, .tup h r, e => .tup h (RepAll.imm0 r e)
  | _, _, .lst h r, e => by cases e
  | _, _, .dct _ _ _, e => by cases e
theorem RepAll.imm0 : ∀ {v : List V} {d : List PyData}, RepAll K A H v d → immAll d = true → RepAll K B H v d
  | _, _, .nil, _ => .nil
  | _, _, .cons (d := d) (ds := ds) h r, e => by
    have e' : (immB d && immAll ds) = true := e
    rw [Bool.and_eq_true] at e'
    exact .cons (Rep.imm0 h e'.1) (RepAll.imm0 r e'.2)
end
theorem Rep.imm {v : V} {d : PyData} [i : Imm d] (h : Rep K A H v d) : Rep K B H v d := h.imm0 i.ok
theorem RepAll.imm {v : List V} {d : List PyData} [i : ImmL d] (h : RepAll K A H v d) : RepAll K B H v d := h.imm0 i.ok
end
section
variable {K : PySem.W.Frag} {A : Option Addr → Prop} {H : Hp} {a : Addr}
mutual
/-- what is not there is in no data -/
theorem Rep.avoid (hn : H a = none) : ∀ {v : V} {d : PyData}, Rep K A H v d → Rep K (fun o => A o ∧ o ≠ some a) H v d
  | _, _, .non => .non
  | _, _, .bl b => .bl b
  | _, _, .int i => .int i
  | _, _, .str x => .str x
  | _, _, .tup h r => .tup h (RepAll.avoid hn r)
  | _, _, .lst h r => .lst (h.imp (fun q => ⟨q.1, q.2, fun z => by cases z; rw [hn] at q; cases q.1⟩) fun q => ⟨q.1, q.2, fun z => by cases z⟩) (RepAll.avoid hn r)
  | _, _, .dct h c r => .dct h ⟨c, fun z => by cases z; obtain ⟨ep, q⟩ := h.at'; rw [hn] at q; cases q⟩ (RepKV.avoid hn r)
theorem RepAll.avoid (hn : H a = none) : ∀ {v : List V} {d : List PyData}, RepAll K A H v d → RepAll K (fun o => A o ∧ o ≠ some a) H v d
  | _, _, .nil => .nil
  | _, _, .cons h r => .cons (Rep.avoid hn h) (RepAll.avoid hn r)
theorem RepKV.avoid (hn : H a = none) : ∀ {v : List DEnt} {d : List (PyData × PyData)}, RepKV K A H v d → RepKV K (fun o => A o ∧ o ≠ some a) H v d
  | _, _, .nil => .nil
  | _, _, .cons h1 h2 h3 h4 h5 r => .cons (Rep.avoid hn h1) h2 h3 h4 (Rep.avoid hn h5) (RepKV.avoid hn r)
end
end
/-! ### the state of a body -/
/-- how a value may be taken: whatever it is; no owned list in it; none that the entry had; all its lists new; no lists -/
inductive Md where
  | any | safe | fresh | new | imm
  deriving DecidableEq
/-- what an owned address holds -/
inductive Ow where
  | l (ds : List PyData)
  | d (kvs : List (PyData × PyData))
  | r (kvs : List (PyData × Addr))
/-- a name: data; data whose lists are new since the entry; the owned thing at place k; an exception of the class at C -/
inductive Sl where
  | d (x : PyData) | f (x : PyData) | o (k : Nat) | x (C : Addr)
noncomputable abbrev Own := List (Addr × Ow)
noncomputable abbrev Nv := List (Option Sl)
noncomputable def Md.A (m : Md) (own : Own) (H0 H : Hp) (o : Option Addr) : Prop := match m, o with
  | .any, _ => True
  | .safe, some a => a ∉ own.map (·.1)
  | .safe, none => True
  | .fresh, some a => a ∉ own.map (·.1) ∧ H0 a = none
  | .fresh, none => False
  | .new, some a => H a = none
  | .new, none => False
  | .imm, _ => False
/-- a dict whose values are addresses -/
inductive RepKR (K : PySem.W.Frag) (H : Hp) : List DEnt → List (PyData × Addr) → Prop
  | nil : RepKR K H [] []
  | cons {k : PyData} {ka l : Addr} {xs : List DEnt} {kvs : List (PyData × Addr)} : Rep K (fun _ => False) H (.ref ka) k → keyB k = true → k.depth ≤ 6 → RepKR K H xs kvs → RepKR K H ((k, ka, .ref l) :: xs) ((k, l) :: kvs)
theorem RepKR.mono {K : PySem.W.Frag} {H H' : Hp} (e : Ext K (fun _ => False) H H') : ∀ {xs : List DEnt} {kvs : List (PyData × Addr)}, RepKR K H xs kvs → RepKR K H' xs kvs
  | _, _, .nil => .nil
  | _, _, .cons h1 h2 h3 r => .cons (h1.mono e) h2 h3 (RepKR.mono e r)
noncomputable def OwOk (K : PySem.W.Frag) (H : Hp) (a : Addr) : Ow → Prop
  | .l ds => ∃ ys, H a = some (.lst ys) ∧ RepAll K (fun _ => False) H ys ds
  | .d kvs => ∃ xs, DOk H a xs ∧ RepKV K (fun _ => False) H xs kvs
  | .r kvs => ∃ xs, DOk H a xs ∧ RepKR K H xs kvs
noncomputable def SlOk (K : PySem.W.Frag) (H0 H : Hp) (own : Own) (o : Option (Option V)) : Sl → Prop
  | .d d => ∃ v, o = some (some v) ∧ Rep K (Md.A .safe own H0 H0) H v d
  | .f d => ∃ v, o = some (some v) ∧ Rep K (Md.A .fresh own H0 H0) H v d
  | .o k => ∃ a c, own[k]? = some (a, c) ∧ o = some (some (.ref a))
  | .x C => ∃ a, o = some (some (.ref a)) ∧ H a = some (excO a C)
structure Sta (K : PySem.W.Frag) (H0 H : Hp) (σ : St) (env : Nv) (own : Own) : Prop where
  len : env.length = σ.length
  same : Same H0 H
  sl : ∀ (i : Nat) (s : Sl), env[i]? = some (some s) → SlOk K H0 H own σ[i]? s
  ow : ∀ p ∈ own, H0 p.1 = none ∧ OwOk K H p.1 p.2
  nd : (own.map (·.1)).Nodup
section
variable {K : PySem.W.Frag} {H0 H H' H1 : Hp} {σ : St} {env : Nv} {own : Own}
theorem same_none {a : Addr} (e : Same H H') (h : H' a = none) : H a = none := by
  cases q : H a with
  | none => rfl
  | some o => rw [e _ _ q] at h; cases h
theorem Md.A.down {m : Md} {o : Option Addr} (e : Same H H') (h : m.A own H0 H' o) : m.A own H0 H o := by
  cases m <;> cases o <;> first | exact h | exact same_none e h
theorem OwOk.same {a : Addr} {c : Ow} (e : Same H H') (h : OwOk K H a c) : OwOk K H' a c := by
  cases c with
  | l ds => obtain ⟨ys, h1, h2⟩ := h; exact ⟨ys, e _ _ h1, h2.mono e.ext⟩
  | d kvs => obtain ⟨xs, h1, h2⟩ := h; exact ⟨xs, h1.up fun ep q => e _ _ q, h2.mono e.ext⟩
  | r kvs => obtain ⟨xs, h1, h2⟩ := h; exact ⟨xs, h1.up fun ep q => e _ _ q, h2.mono e.ext⟩
theorem OwOk.some {a : Addr} {c : Ow} (h : OwOk K H a c) : ∃ o, H a = some o := by
  cases c with
  | l ds => obtain ⟨ys, h1, h2⟩ := h; exact ⟨_, h1⟩
  | d kvs => obtain ⟨xs, h1, h2⟩ := h; obtain ⟨ep, q⟩ := h1.at'; exact ⟨_, q⟩
  | r kvs => obtain ⟨xs, h1, h2⟩ := h; obtain ⟨ep, q⟩ := h1.at'; exact ⟨_, q⟩
/-- things are new; all else stays -/
theorem Sta.step (Z : Sta K H0 H σ env own) (e : Same H H') : Sta K H0 H' σ env own := by
  refine ⟨Z.len, Z.same.trans e, fun i s h => ?_, fun p hp => ⟨(Z.ow p hp).1, (Z.ow p hp).2.same e⟩, Z.nd⟩
  have z := Z.sl i s h
  cases s with
  | d x => obtain ⟨v, h1, h2⟩ := z; exact ⟨v, h1, h2.mono e.ext⟩
  | f x => obtain ⟨v, h1, h2⟩ := z; exact ⟨v, h1, h2.mono e.ext⟩
  | o k => exact z
  | x C => obtain ⟨a, h1, h2⟩ := z; exact ⟨a, h1, e _ _ h2⟩
theorem Sta.notown (Z : Sta K H0 H σ env own) {a : Addr} (h : H a = none) : a ∉ own.map (·.1) := fun hm => by
  obtain ⟨p, hp, rfl⟩ := List.mem_map.mp hm
  obtain ⟨o, ho⟩ := (Z.ow p hp).2.some
  rw [h] at ho; cases ho
/-- what is new is new in every sense -/
theorem Sta.newA (Z : Sta K H0 H σ env own) {a : Addr} (h : H a = none) {m : Md} (hm : m ≠ .imm) : m.A own H0 H (some a) := by
  cases m with
  | any => trivial
  | safe => exact Z.notown h
  | fresh => exact ⟨Z.notown h, same_none Z.same h⟩
  | new => exact h
  | imm => exact absurd rfl hm
end
/-- data that is known in the mode lv may be taken in the mode m -/
class Fit (lv m : Md) (d : PyData) : Prop where
  ok : ∀ {K : PySem.W.Frag} {H0 H H' : Hp} {σ : St} {env : Nv} {own : Own} {v : V}, Sta K H0 H σ env own → Rep K (lv.A own H0 H) H' v d → Rep K (m.A own H0 H) H' v d
noncomputable instance fit_imm (lv m : Md) (d : PyData) [Imm d] : Fit lv m d := ⟨fun _ h => h.imm⟩
noncomputable instance fit_aa (d : PyData) : Fit .any .any d := ⟨fun _ h => h⟩
noncomputable instance fit_sa (d : PyData) : Fit .safe .any d := ⟨fun _ h => h.weak fun _ _ => trivial⟩
noncomputable instance fit_ss (d : PyData) : Fit .safe .safe d := ⟨fun _ h => h⟩
noncomputable instance fit_fa (d : PyData) : Fit .fresh .any d := ⟨fun _ h => h.weak fun _ _ => trivial⟩
noncomputable instance fit_fs (d : PyData) : Fit .fresh .safe d := ⟨fun _ h => h.weak fun o z => by cases o with | none => trivial | some a => exact z.1⟩
noncomputable instance fit_ff (d : PyData) : Fit .fresh .fresh d := ⟨fun _ h => h⟩
noncomputable instance fit_na (d : PyData) : Fit .new .any d := ⟨fun _ h => h.weak fun _ _ => trivial⟩
noncomputable instance fit_ns (d : PyData) : Fit .new .safe d := ⟨fun Z h => h.weak fun o z => by cases o with | none => trivial | some a => exact Z.newA (m := .safe) z (by intro e; cases e)⟩
noncomputable instance fit_nf (d : PyData) : Fit .new .fresh d := ⟨fun Z h => h.weak fun o z => by cases o with | none => exact z.elim | some a => exact Z.newA (m := .fresh) z (by intro e; cases e)⟩
noncomputable instance fit_nn (d : PyData) : Fit .new .new d := ⟨fun _ h => h⟩
/-! ### what an expression is worth -/
noncomputable def tEv (m : Md) (K : PySem.W.Frag) (env : Nv) (own : Own) (d : PyData) : TE := fun σ H Q => ∃ H0, Sta K H0 H σ env own ∧ ∀ v H', Same H H' → Rep K (m.A own H0 H) H' v d → Q v H'
structure Ev (m : Md) (X : Cx) (env : Nv) (own : Own) (e : Expr) (d : PyData) : Prop where
  h : PE X e (tEv m X.K env own d)
/-- a test -/
noncomputable def tEvT (K : PySem.W.Frag) (env : Nv) (own : Own) (b : Bool) : TT := fun σ H Q => ∃ H0, Sta K H0 H σ env own ∧ ∀ H', Same H H' → Q b H'
structure EvT (X : Cx) (env : Nv) (own : Own) (e : Expr) (b : Bool) : Prop where
  h : PT X e (tEvT X.K env own b)
structure EvW (X : Cx) (env : Nv) (own : Own) (e : Expr) (b : Bool) : Prop where
  h : PW X e (tEvT X.K env own b)
/-- arguments -/
noncomputable def tEvA (m : Md) (K : PySem.W.Frag) (env : Nv) (own : Own) (ds : List PyData) : TA := fun σ H Q => ∃ H0, Sta K H0 H σ env own ∧ ∀ vs H', Same H H' → RepAll K (m.A own H0 H) H' vs ds → Q vs H'
structure EvA (m : Md) (X : Cx) (env : Nv) (own : Own) (es : List Expr) (ds : List PyData) : Prop where
  h : PA X es (tEvA m X.K env own ds)
theorem PE.of {X : Cx} {e : Expr} {t u : TE} (h : PE X e t) (q : ∀ σ H Q, u σ H Q → t σ H Q) : PE X e u := fun pins s σ H Q I z => h pins s σ H Q I (q σ H Q z)
theorem PA.of {X : Cx} {e : List Expr} {t u : TA} (h : PA X e t) (q : ∀ σ H Q, u σ H Q → t σ H Q) : PA X e u := fun pos pins s σ H Q I z => h pos pins s σ H Q I (q σ H Q z)
theorem Ev.of {m : Md} {X : Cx} {env : Nv} {own : Own} {e : Expr} {d : PyData} {t : TE} (h : PE X e t) (q : ∀ σ H Q, tEv m X.K env own d σ H Q → t σ H Q) : Ev m X env own e d := ⟨PE.of h q⟩
theorem EvA.of {m : Md} {X : Cx} {env : Nv} {own : Own} {e : List Expr} {d : List PyData} {t : TA} (h : PA X e t) (q : ∀ σ H Q, tEvA m X.K env own d σ H Q → t σ H Q) : EvA m X env own e d := ⟨PA.of h q⟩
/-- what a name of a body is worth -/
noncomputable def slotD (own : Own) : Option (Option Sl) → Option (Md × PyData)
  | some (some (.d d)) => some (.safe, d)
  | some (some (.f d)) => some (.fresh, d)
  | some (some (.o k)) => match own[k]? with
    | some (_, .l ds) => some (.any, .list ds)
    | some (_, .d kvs) => some (.any, .dict kvs)
    | some (_, .r _) => none
    | none => none
  | _ => none
theorem Sta.slot {K : PySem.W.Frag} {H0 H : Hp} {σ : St} {env : Nv} {own : Own} (Z : Sta K H0 H σ env own) {i : Nat} {lv : Md} {d : PyData} (h : slotD own env[i]? = some (lv, d)) : ∃ v, σ[i]? = some (some v) ∧ Rep K (lv.A own H0 H) H v d := by
  cases e : env[i]? with
  | none => rw [e] at h; cases h
  | some o =>
    cases o with
    | none => rw [e] at h; cases h
    | some s =>
      rw [e] at h
      have z := Z.sl i s e
      cases s with
      | d x =>
        cases h
        obtain ⟨v, h1, h2⟩ := z
        exact ⟨v, h1, h2.weak fun o q => by cases o <;> exact q⟩
      | f x =>
        cases h
        obtain ⟨v, h1, h2⟩ := z
        exact ⟨v, h1, h2.weak fun o q => by cases o <;> exact q⟩
      | x C => cases h
      | o k =>
        obtain ⟨a, c, h1, h2⟩ := z
        have h' : (match own[k]? with | some (_, .l ds) => some (Md.any, PyData.list ds) | some (_, .d kvs) => some (Md.any, PyData.dict kvs) | some (_, .r _) => none | none => none) = some (lv, d) := h
        rw [h1] at h'
        cases c with
        | l ds =>
          cases h'
          obtain ⟨ys, q1, q2⟩ := (Z.ow (a, .l ds) (List.mem_of_getElem? h1)).2
          exact ⟨_, h2, .lst (.inl ⟨q1, trivial⟩) (q2.weak fun _ z => z.elim)⟩
        | d kvs =>
          cases h'
          obtain ⟨xs, q1, q2⟩ := (Z.ow (a, .d kvs) (List.mem_of_getElem? h1)).2
          exact ⟨_, h2, .dct q1 trivial (q2.weak fun _ z => z.elim)⟩
        | r kvs => cases h'
section
variable {X : Cx} {m : Md} {env : Nv} {own : Own} {d : PyData}
theorem ev_name {i : Nat} {x : Str} {pos : Pos} {lv : Md} (hN : X.N[i]? = some x) (hv : Vis X.env.scope x) (hs : slotD own env[i]? = some (lv, d)) [F : Fit lv m d] (hd : (x == ("__debug__" : Str)) = false := by decide) (hcd : (x == ("__classdict__" : Str)) = false := by decide) :
    Ev m X env own (.Name x pos) d := Ev.of (pe_var hN hv hd hcd) fun σ H Q ⟨H0, Z, q⟩ => by
  obtain ⟨v, h1, h2⟩ := Z.slot hs
  exact ⟨v, h1, q v H (Same.refl H) (F.ok Z h2)⟩
theorem ev_int {i : Int} {j pos} : Ev m X env own (.Constant (.int i) j pos) (.int i) := Ev.of pe_int fun σ H Q ⟨H0, Z, q⟩ => q _ H (Same.refl H) (.int i)
theorem ev_bl {i : Bool} {j pos} : Ev m X env own (.Constant (.bool i) j pos) (.bool i) := Ev.of pe_bl fun σ H Q ⟨H0, Z, q⟩ => q _ H (Same.refl H) (.bl i)
theorem ev_non {j pos} : Ev m X env own (.Constant .none j pos) .none := Ev.of pe_non fun σ H Q ⟨H0, Z, q⟩ => q _ H (Same.refl H) .non
theorem ev_str {i : Str} {j pos} : Ev m X env own (.Constant (.str i) j pos) (.str i) := Ev.of pe_str fun σ H Q ⟨H0, Z, q⟩ => q _ H (Same.refl H) (.str i)
/-- a constant of the text -/
theorem ev_glob {x : Str} {v : V} {u : Value} {pos : Pos} (hg : Gl X x) (hm : X.mg x = some u) (r : RelV v u) (hd : ∀ H, Rep X.K (fun _ => False) H v d) (hdb : (x == ("__debug__" : Str)) = false := by decide) : Ev m X env own (.Name x pos) d :=
  Ev.of (pe_glob hg hm r hdb) fun σ H Q ⟨H0, Z, q⟩ => q _ H (Same.refl H) ((hd H).weak fun _ z => z.elim)
theorem eva_nil : EvA m X env own [] [] := EvA.of pa_nil fun σ H Q ⟨H0, Z, q⟩ => q _ H (Same.refl H) .nil
theorem eva_cons {e : Expr} {es : List Expr} {ds : List PyData} (h : Ev m X env own e d) (t : EvA m X env own es ds) (hs : starEach (e :: es) X.env = (false, eval e X.env) :: starEach es X.env := by rfl) : EvA m X env own (e :: es) (d :: ds) :=
  EvA.of (pa_cons h.h t.h hs) fun σ H Q ⟨H0, Z, q⟩ => ⟨H0, Z, fun v H1 s1 r1 => ⟨H0, Z.step s1, fun vs H2 s2 r2 => q _ H2 (s1.trans s2) (.cons (r1.mono s2.ext) (r2.weak fun _ z => Md.A.down s1 z))⟩⟩
theorem line1000 {n : Nat} (h : n ≤ 1000) : n ≤ sizeLine := Nat.le_of_lt (small1000 (by lia))
theorem ev_tup {es : List Expr} {ds : List PyData} {x1 : _} {pos : Pos} (h : EvA m X env own es ds) (hl : ds.length ≤ 1000 := by first | exact Nat.le_of_ble_eq_true rfl | simp) : Ev m X env own (.Tuple es x1 pos) (.tuple ds) :=
  Ev.of (pe_tup h.h) fun σ H Q ⟨H0, Z, q⟩ => ⟨H0, Z, fun vs H1 s1 r1 => ⟨line1000 (by rw [r1.length]; exact hl), fun p hp => q _ _ (s1.trans (same_new hp _)) (.tup (SqT.of upd_same) (r1.mono (same_new hp _).ext))⟩⟩
theorem ev_lst {es : List Expr} {ds : List PyData} {pos : Pos} (h : EvA m X env own es ds) (hm : m ≠ .imm := by decide) (hl : ds.length ≤ 1000 := by first | exact Nat.le_of_ble_eq_true rfl | simp) : Ev m X env own (.List es pos) (.list ds) :=
  Ev.of (pe_lst h.h) fun σ H Q ⟨H0, Z, q⟩ => ⟨H0, Z, fun vs H1 s1 r1 => ⟨line1000 (by rw [r1.length]; exact hl), fun p hp => q _ _ (s1.trans (same_new hp _)) (.lst (.inl ⟨upd_same, Md.A.down s1 ((Z.step s1).newA hp hm)⟩) (r1.mono (same_new hp _).ext))⟩⟩
end
end L2

set_option Elab.async false
set_option linter.all false
set_option maxRecDepth 100000
set_option maxHeartbeats 4000000
/-! Values as data, part 2: operations -/
namespace L2
open PySem PySem.Spec PyProof.Rows
/-- a text by its signs -/
noncomputable abbrev tx (l : List Nat) : Str := ⟨l.toArray⟩
theorem tx_len (l : List Nat) : (tx l).length = l.length := by show l.toArray.size = l.length; simp
theorem tx_app (l m : List Nat) : tx l ++ tx m = tx (l ++ m) := by
  show (⟨l.toArray ++ m.toArray⟩ : Str) = ⟨(l ++ m).toArray⟩
  simp
/-! ### a op b -/
class BinD (op : Operator) (da db : PyData) (d : outParam PyData) (lst : outParam Bool) (side : outParam Prop) : Prop where
  ok : side → ∀ {X : Cx} {A : Option Addr → Prop}, ∃ r : R2, OpR X (binaryOp op) r ∧ ∀ x y H Q, (lst = true → ∀ p, H p = none → A (some p)) → Rep X.K A H x da → Rep X.K A H y db → (∀ z H', Same H H' → Rep X.K A H' z d → Q z H') → r x y H Q
section
variable {X : Cx} {m : Md} {env : Nv} {own : Own} {d da db : PyData} {a b c : Expr} {pos : Pos}
theorem ev_bin {op : Operator} {lst : Bool} {side : Prop} (ha : Ev m X env own a da) (hb : Ev m X env own b db) [B : BinD op da db d lst side] (hs : side := by trivial) (hm : lst = true → m ≠ .imm := by decide) : Ev m X env own (.BinOp a op b pos) d := ⟨fun pins s σ H Q I ⟨H0, Z, q⟩ => by
  obtain ⟨r, hr, hq⟩ := B.ok hs (X := X) (A := m.A own H0 H)
  refine pe_op hr ha.h hb.h pins s σ H Q I ?_
  refine ⟨H0, Z, fun x H1 s1 r1 => ⟨H0, Z.step s1, fun y H2 s2 r2 => ?_⟩⟩
  have Z2 := (Z.step s1).step s2
  exact hq x y H2 Q (fun hl p hp => Md.A.down (s1.trans s2) (Z2.newA hp (hm hl))) (r1.mono s2.ext) (r2.weak fun _ z => Md.A.down s1 z) fun z H3 s3 r3 => q z H3 (s1.trans (s2.trans s3)) r3⟩
end
theorem Rep.toInt {K : PySem.W.Frag} {A : Option Addr → Prop} {H : Hp} {x : V} {i : Int} (h : Rep K A H x (.int i)) : x = .int i := by cases h; rfl
theorem Rep.toStr {K : PySem.W.Frag} {A : Option Addr → Prop} {H : Hp} {x : V} {i : Str} (h : Rep K A H x (.str i)) : x = .str i := by cases h; rfl
theorem Rep.toBool {K : PySem.W.Frag} {A : Option Addr → Prop} {H : Hp} {x : V} {i : Bool} (h : Rep K A H x (.bool i)) : x = .bl i := by cases h; rfl
theorem Rep.toNone {K : PySem.W.Frag} {A : Option Addr → Prop} {H : Hp} {x : V} (h : Rep K A H x .none) : x = .non := by cases h; rfl
theorem Rep.toList {K : PySem.W.Frag} {A : Option Addr → Prop} {H : Hp} {x : V} {ds : List PyData} (h : Rep K A H x (.list ds)) : ∃ a xs, x = .ref a ∧ SqA K A H a xs ∧ RepAll K A H xs ds := by cases h; exact ⟨_, _, rfl, by assumption, by assumption⟩
theorem Rep.toTup {K : PySem.W.Frag} {A : Option Addr → Prop} {H : Hp} {x : V} {ds : List PyData} (h : Rep K A H x (.tuple ds)) : ∃ a xs, x = .ref a ∧ SqT K H a xs ∧ RepAll K A H xs ds := by cases h; exact ⟨_, _, rfl, by assumption, by assumption⟩
noncomputable instance binAddI (i j : Int) : BinD .Add (.int i) (.int j) (.int (i + j)) false True := ⟨fun _ {_ _} => ⟨_, op_add, fun x y H Q _ rx ry q => ⟨i, j, rx.toInt, ry.toInt, q _ H (Same.refl H) (.int _)⟩⟩⟩
noncomputable instance binSubI (i j : Int) : BinD .Sub (.int i) (.int j) (.int (i - j)) false True := ⟨fun _ {_ _} => ⟨_, op_sub, fun x y H Q _ rx ry q => ⟨i, j, rx.toInt, ry.toInt, q _ H (Same.refl H) (.int _)⟩⟩⟩
noncomputable instance binMulI (i j : Int) : BinD .Mult (.int i) (.int j) (.int (i * j)) false (CMul i j) := ⟨fun hs {_ _} => ⟨_, op_mul, fun x y H Q _ rx ry q => ⟨i, j, rx.toInt, ry.toInt, hs, q _ H (Same.refl H) (.int _)⟩⟩⟩
noncomputable instance binModI (i j : Int) : BinD .Mod (.int i) (.int j) (.int (i % j)) false (0 < j) := ⟨fun hs {_ _} => ⟨_, op_mod, fun x y H Q _ rx ry q => ⟨i, j, rx.toInt, ry.toInt, hs, q _ H (Same.refl H) (.int _)⟩⟩⟩
noncomputable instance binDivI (i j : Int) : BinD .FloorDiv (.int i) (.int j) (.int (i / j)) false (CDiv i j) := ⟨fun hs {_ _} => ⟨_, op_fdiv, fun x y H Q _ rx ry q => ⟨i, j, rx.toInt, ry.toInt, hs, q _ H (Same.refl H) (.int _)⟩⟩⟩
noncomputable instance (priority := high) binAddX (i j : List Nat) : BinD .Add (.str (tx i)) (.str (tx j)) (.str (tx (i ++ j))) false (i.length + j.length ≤ 100000) := ⟨fun hs {_ _} => ⟨_, op_add_str, fun x y H Q _ rx ry q => ⟨tx i, tx j, rx.toStr, ry.toStr, Nat.le_trans (by rw [tx_len, tx_len]; exact hs) big_line, by rw [tx_app]; exact q _ H (Same.refl H) (.str _)⟩⟩⟩
theorem add_listP {prog : Program} {w : World} {A : Around} {E : Value → Shared → Prop} {s : Shared} {l b : Addr} {its its2 : Array Value} {Q : Value → Shared → Prop} (hl : PlainL s.heap l its) (hb : PlainL s.heap b its2) (hsz : its.size + its2.size ≤ sizeLine)
    (h : Q (.ref s.heap.objs.size) { s with heap := s.heap.push { cls := .type "list", data := .seq (its ++ its2) } }) : wpAny (model prog w) A (binaryOp .Add (.ref l) (.ref b)) Q E s := by
  obtain ⟨⟨cls, dd, data, sl⟩, n, ho, hc, hdd, hd⟩ := hl
  obtain ⟨⟨cls2, dd2, data2, sl2⟩, n2, ho2, hc2, hdd2, hd2⟩ := hb
  simp only at hc hd hc2 hd2
  subst hc hd hc2 hd2
  exact concat_meets ⟨_, ho, rfl⟩ ⟨_, ho2, rfl⟩ noFill_list_add seq_list_add PySem.F.slot_list_add PySem.F.entry_list_add (PySem.F.args_list_add_2 _ _) (list_addW l b its its2 n n2 dd dd2 sl sl2 hsz) ⟨ho, ho2, h⟩
/-- a list and a list, whichever they are -/
theorem op_catL {X : Cx} : OpR X (binaryOp .Add) (fun x y H Q => ∃ l b xs zs, x = .ref l ∧ y = .ref b ∧ SqL X.K H l xs ∧ SqL X.K H b zs ∧ xs.length + zs.length ≤ sizeLine ∧ ∀ p, H p = none → Q (.ref p) (upd H p (.lst (xs ++ zs)))) := by
  intro pins s σ H x y v u Q I rx ry h
  obtain ⟨l, b, xs, zs, rfl, rfl, hH, hB, hz, q⟩ := h
  cases rx
  cases ry
  obtain ⟨its, r, ⟨o, n, e, c, dd, dt⟩, hl⟩ := I.list hH
  obtain ⟨its2, r2, ⟨o2, n2, e2, c2, dd2, dt2⟩, hl2⟩ := I.list hB
  have hl1 := r.length
  have hl3 := r2.length
  have hsz : its.toArray.size + its2.toArray.size ≤ sizeLine := by rw [List.size_toArray, List.size_toArray]; lia
  refine add_listP ⟨o, n, e, c, dd, dt⟩ ⟨o2, n2, e2, c2, dd2, dt2⟩ hsz ?_
  have ea : its.toArray ++ its2.toArray = (its ++ its2).toArray := by simp
  rw [ea]
  exact ⟨.ref _, _, I.lnew (t' := s.toks) (r.append r2) (by rw [List.length_append]; lia), rfl, q _ I.fresh⟩
noncomputable instance binAddL (i j : List PyData) : BinD .Add (.list i) (.list j) (.list (i ++ j)) true (i.length + j.length ≤ 1000) := ⟨fun hs {_ _} => ⟨_, op_catL, fun x y H Q hp rx ry q => by
  obtain ⟨a, xs, rfl, h1, h2⟩ := rx.toList
  obtain ⟨b, ys, rfl, h3, h4⟩ := ry.toList
  refine ⟨a, b, xs, ys, rfl, rfl, h1.sq, h3.sq, line1000 (by rw [h2.length, h4.length]; exact hs), fun p hn => q _ _ (same_new hn _) (.lst (.inl ⟨upd_same, hp rfl p hn⟩) ((h2.append h4).mono (same_new hn _).ext))⟩⟩⟩
/-! ### comparisons -/
/-- data whose == goes by what they are -/
class Shp (n : Nat) (d : PyData) : Prop where
  lay : d.canLay0 = true
  dep : d.depth ≤ n
class ShpL (n : Nat) (d : List PyData) : Prop where
  lay : PyData.canLayAll0 d = true
  dep : PyData.depthAll d ≤ n
noncomputable instance shpI (n : Nat) (i : Int) : Shp n (.int i) := ⟨rfl, Nat.zero_le _⟩
noncomputable instance shpB (n : Nat) (b : Bool) : Shp n (.bool b) := ⟨by cases b <;> rfl, by cases b <;> exact Nat.zero_le _⟩
noncomputable instance shpT (n : Nat) (ds : List PyData) [h : ShpL n ds] : Shp (n + 1) (.tuple ds) := ⟨h.lay, Nat.succ_le_succ h.dep⟩
noncomputable instance shpL (n : Nat) (ds : List PyData) [h : ShpL n ds] : Shp (n + 1) (.list ds) := ⟨h.lay, Nat.succ_le_succ h.dep⟩
noncomputable instance shpNil (n : Nat) : ShpL n [] := ⟨rfl, Nat.zero_le _⟩
noncomputable instance shpCons (n : Nat) (d : PyData) (ds : List PyData) [h : Shp n d] [t : ShpL n ds] : ShpL n (d :: ds) := ⟨by show (d.canLay0 && PyData.canLayAll0 ds) = true; rw [h.lay, t.lay]; rfl, Nat.max_le.mpr ⟨h.dep, t.dep⟩⟩
noncomputable instance shpMap (n : Nat) {α : Type} (f : α → PyData) (xs : List α) [h : ∀ a, Shp n (f a)] : ShpL n (xs.map f) := ⟨canLay_all (fun a => (h a).lay) xs, depth_all (fun a => (h a).dep) xs⟩
theorem Shp.ok {d : PyData} (h : Shp 9 d) : PySem.SeqAt.shaped d = true := shaped_of h.lay (Nat.le_trans h.dep (by decide))
class CmpD (op : CmpOp) (da db : PyData) (b : outParam Bool) (side : outParam Prop) : Prop where
  ok : side → ∀ {X : Cx}, X.A.units + 64 < cLine → ∃ r : R2, OpR X (compareOp op) r ∧ ∀ x y H Q, Rep X.K (fun _ => True) H x da → Rep X.K (fun _ => True) H y db → Q (.bl b) H → r x y H Q
noncomputable instance cmpLt (i j : Int) : CmpD .Lt (.int i) (.int j) (decide (i < j)) True := ⟨fun _ {_} _ => ⟨_, op_lt, fun x y H Q rx ry q => ⟨i, j, rx.toInt, ry.toInt, q⟩⟩⟩
noncomputable instance cmpLe (i j : Int) : CmpD .LtE (.int i) (.int j) (decide (i ≤ j)) True := ⟨fun _ {_} _ => ⟨_, op_le, fun x y H Q rx ry q => ⟨i, j, rx.toInt, ry.toInt, q⟩⟩⟩
noncomputable instance cmpGt (i j : Int) : CmpD .Gt (.int i) (.int j) (decide (j < i)) True := ⟨fun _ {_} _ => ⟨_, op_gt, fun x y H Q rx ry q => ⟨i, j, rx.toInt, ry.toInt, q⟩⟩⟩
noncomputable instance (priority := low) cmpEq (d e : PyData) [h : Shp 9 d] [t : Shp 9 e] : CmpD .Eq d e (PyData.eqv d e) True := ⟨fun _ {_} hu => ⟨_, op_eqD hu, fun x y H Q rx ry q => ⟨d, e, rx.dat0 (lay_nodict h.lay), ry.dat0 (lay_nodict t.lay), h.ok, t.ok, q⟩⟩⟩
noncomputable instance (priority := low) cmpNe (d e : PyData) [h : Shp 9 d] [t : Shp 9 e] : CmpD .NotEq d e (!PyData.eqv d e) True := ⟨fun _ {_} hu => ⟨_, op_neD hu, fun x y H Q rx ry q => ⟨d, e, rx.dat0 (lay_nodict h.lay), ry.dat0 (lay_nodict t.lay), h.ok, t.ok, q⟩⟩⟩
/-- data kinds whose == is = -/
class Enc {α : Type} [DecidableEq α] (f : α → PyData) : Prop where
  eq : ∀ a b, PyData.eqv (f a) (f b) = decide (a = b)
theorem eqv_str (a b : Str) : PyData.eqv (.str a) (.str b) = decide (a = b) := by
  show (a == b) = _
  rw [Bool.beq_eq_decide_eq]
noncomputable instance encI : Enc PyData.int := ⟨eqv_int⟩
noncomputable instance encB : Enc PyData.bool := ⟨eqv_bool⟩
noncomputable instance encTI : Enc (fun t : List Int => PyData.tuple (t.map PyData.int)) := ⟨eqv_ints⟩
noncomputable instance cmpEqI (i j : Int) : CmpD .Eq (.int i) (.int j) (decide (i = j)) True := ⟨fun h {_} hu => by rw [← eqv_int]; exact (cmpEq _ _).ok h hu⟩
noncomputable instance cmpNeI (i j : Int) : CmpD .NotEq (.int i) (.int j) (!decide (i = j)) True := ⟨fun h {_} hu => by rw [← eqv_int]; exact (cmpNe _ _).ok h hu⟩
noncomputable instance cmpEqB (i j : Bool) : CmpD .Eq (.bool i) (.bool j) (decide (i = j)) True := ⟨fun h {_} hu => by rw [← eqv_bool]; exact (cmpEq _ _).ok h hu⟩
theorem decV_str (i j : Str) : decide (V.str i = V.str j) = decide (i = j) := by
  by_cases h : i = j
  · rw [h]; simp
  · rw [decide_eq_false h, decide_eq_false (fun e => h (by injection e))]
noncomputable instance cmpEqS (i j : Str) : CmpD .Eq (.str i) (.str j) (decide (i = j)) True := ⟨fun _ {_} hu => ⟨_, op_eq, fun x y H Q rx ry q => by rw [rx.toStr, ry.toStr]; exact ⟨rfl, by rw [decV_str]; exact q⟩⟩⟩
noncomputable instance cmpNeS (i j : Str) : CmpD .NotEq (.str i) (.str j) (!decide (i = j)) True := ⟨fun _ {_} hu => ⟨_, op_ne, fun x y H Q rx ry q => by rw [rx.toStr, ry.toStr]; exact ⟨rfl, by rw [decV_str]; exact q⟩⟩⟩
theorem tx_inj (l m : List Nat) : decide (tx l = tx m) = decide (l = m) := by
  by_cases h : l = m
  · rw [h]; simp
  · rw [decide_eq_false h, decide_eq_false (fun e => h (by injection e with e; simpa using congrArg Array.toList e))]
noncomputable instance (priority := high) cmpEqX (i j : List Nat) : CmpD .Eq (.str (tx i)) (.str (tx j)) (decide (i = j)) True := ⟨fun h {_} hu => by rw [← tx_inj]; exact (cmpEqS _ _).ok h hu⟩
noncomputable instance (priority := high) cmpNeX (i j : List Nat) : CmpD .NotEq (.str (tx i)) (.str (tx j)) (!decide (i = j)) True := ⟨fun h {_} hu => by rw [← tx_inj]; exact (cmpNeS _ _).ok h hu⟩
noncomputable instance cmpEqM {α : Type} [DecidableEq α] (f : α → PyData) [e : Enc f] [∀ a, Shp 8 (f a)] (xs ys : List α) : CmpD .Eq (.list (xs.map f)) (.list (ys.map f)) (decide (xs = ys)) True := ⟨fun h {_} hu => by
  have q : PyData.eqv (.list (xs.map f)) (.list (ys.map f)) = decide (xs = ys) := eqv_all e.eq xs ys
  rw [← q]; exact (cmpEq _ _).ok h hu⟩
noncomputable instance cmpNeM {α : Type} [DecidableEq α] (f : α → PyData) [e : Enc f] [∀ a, Shp 8 (f a)] (xs ys : List α) : CmpD .NotEq (.list (xs.map f)) (.list (ys.map f)) (!decide (xs = ys)) True := ⟨fun h {_} hu => by
  have q : PyData.eqv (.list (xs.map f)) (.list (ys.map f)) = decide (xs = ys) := eqv_all e.eq xs ys
  rw [← q]; exact (cmpNe _ _).ok h hu⟩
noncomputable def isNoneD : PyData → Bool
  | .none => true
  | _ => false
theorem Rep.isNone {K : PySem.W.Frag} {A : Option Addr → Prop} {H : Hp} {x : V} {d : PyData} (h : Rep K A H x d) : decide (x = .non) = isNoneD d := by cases h <;> rfl
noncomputable instance cmpNotN (d : PyData) : CmpD .IsNot d .none (!isNoneD d) True := ⟨fun _ {_} _ => ⟨_, op_notN, fun x y H Q rx ry q => ⟨ry.toNone, by rw [rx.isNone]; exact q⟩⟩⟩
section
variable {X : Cx} {m : Md} {env : Nv} {own : Own} {d da db dc : PyData} {a b c : Expr} {pos : Pos}
theorem ev_cmp {op : CmpOp} {k : Bool} {side : Prop} (hu : X.A.units + 64 < cLine) (ha : Ev .any X env own a da) (hb : Ev .any X env own b db) [B : CmpD op da db k side] (hs : side := by trivial) (hm : behindInMarks op b = false := by exact nomark _) : Ev m X env own (.Compare a [op] [b] pos) (.bool k) := ⟨fun pins s σ H Q I ⟨H0, Z, q⟩ => by
  obtain ⟨r, hr, hq⟩ := B.ok hs (X := X) hu
  refine pe_cmpR hr ha.h hb.h hm pins s σ H Q I ?_
  refine ⟨H0, Z, fun x H1 s1 r1 => ⟨H0, Z.step s1, fun y H2 s2 r2 => ?_⟩⟩
  exact hq x y H2 Q (r1.mono s2.ext) r2 (q _ H2 (s1.trans s2) (.bl k))⟩
theorem evt_cmp {op : CmpOp} {k : Bool} {side : Prop} (hu : X.A.units + 64 < cLine) (ha : Ev .any X env own a da) (hb : Ev .any X env own b db) [B : CmpD op da db k side] (hs : side := by trivial) (hm : behindInMarks op b = false := by exact nomark _) : EvT X env own (.Compare a [op] [b] pos) k := ⟨fun pins s σ H Q I ⟨H0, Z, q⟩ => by
  obtain ⟨r, hr, hq⟩ := B.ok hs (X := X) hu
  refine pt_cmpR hr ha.h hb.h hm pins s σ H Q I ?_
  refine ⟨H0, Z, fun x H1 s1 r1 => ⟨H0, Z.step s1, fun y H2 s2 r2 => ?_⟩⟩
  exact hq x y H2 _ (r1.mono s2.ext) r2 ⟨k, rfl, q H2 (s1.trans s2)⟩⟩
theorem ev_chain {op op' : CmpOp} {k k' : Bool} {side side' : Prop} (hu : X.A.units + 64 < cLine) (ha : Ev .any X env own a da) (hb : Ev .any X env own b db) (hc : Ev .any X env own c dc) [B : CmpD op da db k side] [B' : CmpD op' db dc k' side'] (hs : side := by trivial) (hs' : side' := by trivial)
    (hm : lastMarks [op, op'] [b, c] = false := by with_unfolding_all rfl) : Ev m X env own (.Compare a [op, op'] [b, c] pos) (.bool (k && k')) := ⟨fun pins s σ H Q I ⟨H0, Z, q⟩ => by
  obtain ⟨r, hr, hq⟩ := B.ok hs (X := X) hu
  obtain ⟨r', hr', hq'⟩ := B'.ok hs' (X := X) hu
  refine pe_chain hr hr' ha.h hb.h hc.h hm pins s σ H Q I ?_
  refine ⟨H0, Z, fun x H1 s1 r1 => ⟨H0, Z.step s1, fun y H2 s2 r2 => ?_⟩⟩
  refine hq x y H2 _ (r1.mono s2.ext) r2 ⟨k, rfl, ?_⟩
  have Z2 := (Z.step s1).step s2
  cases k with
  | false => exact iteF (q _ H2 (s1.trans s2) (.bl false))
  | true => exact iteT ⟨H0, Z2, fun z H3 s3 r3 => hq' y z H3 Q (r2.mono s3.ext) r3 (q _ H3 (s1.trans (s2.trans s3)) (.bl _))⟩⟩
theorem evt_chain {op op' : CmpOp} {k k' : Bool} {side side' : Prop} (hu : X.A.units + 64 < cLine) (ha : Ev .any X env own a da) (hb : Ev .any X env own b db) (hc : Ev .any X env own c dc) [B : CmpD op da db k side] [B' : CmpD op' db dc k' side'] (hs : side := by trivial) (hs' : side' := by trivial)
    (hm : lastMarks [op, op'] [b, c] = false := by with_unfolding_all rfl) : EvT X env own (.Compare a [op, op'] [b, c] pos) (k && k') := ⟨fun pins s σ H Q I ⟨H0, Z, q⟩ => by
  obtain ⟨r, hr, hq⟩ := B.ok hs (X := X) hu
  obtain ⟨r', hr', hq'⟩ := B'.ok hs' (X := X) hu
  refine pt_chain hr hr' ha.h hb.h hc.h hm pins s σ H Q I ?_
  refine ⟨H0, Z, fun x H1 s1 r1 => ⟨H0, Z.step s1, fun y H2 s2 r2 => ?_⟩⟩
  refine hq x y H2 _ (r1.mono s2.ext) r2 ⟨k, rfl, ?_⟩
  have Z2 := (Z.step s1).step s2
  cases k with
  | false => exact iteF ⟨false, rfl, q H2 (s1.trans s2)⟩
  | true => exact iteT ⟨H0, Z2, fun z H3 s3 r3 => hq' y z H3 _ (r2.mono s3.ext) r3 ⟨k', rfl, q H3 (s1.trans (s2.trans s3))⟩⟩⟩
/-! ### and, or, not, if else -/
theorem ev_one {op : BoolOp} {k : PyData} (h : Ev m X env own a k) : Ev m X env own (.BoolOp op [a] pos) k := ⟨pe_one h.h⟩
theorem ev_and {rest : List Expr} {k k' : Bool} (ha : Ev m X env own a (.bool k)) (hb : k = true → Ev m X env own (.BoolOp .And (b :: rest) pos) (.bool k')) : Ev m X env own (.BoolOp .And (a :: b :: rest) pos) (.bool (k && k')) := ⟨fun pins s σ H Q I ⟨H0, Z, q⟩ => by
  have hb' : PE X (.BoolOp .And (b :: rest) pos) (fun σ H Q => k = true ∧ tEv m X.K env own (.bool k') σ H Q) := fun pins s σ H Q I ⟨h, z⟩ => (hb h).h pins s σ H Q I z
  refine pe_and ha.h hb' pins s σ H Q I ⟨H0, Z, fun x H1 s1 r1 => ⟨k, r1.toBool, ?_⟩⟩
  cases k with
  | false => exact iteF (q _ H1 s1 (.bl false))
  | true => exact iteT ⟨rfl, H0, Z.step s1, fun z H3 s3 r3 => q _ H3 (s1.trans s3) (r3.weak fun _ w => Md.A.down s1 w)⟩⟩
theorem ev_not {k : Bool} (ha : Ev .any X env own a (.bool k)) : Ev m X env own (.UnaryOp .Not a pos) (.bool (!k)) := ⟨fun pins s σ H Q I ⟨H0, Z, q⟩ =>
  pe_not ha.h pins s σ H Q I ⟨H0, Z, fun x H1 s1 r1 => ⟨k, r1.toBool, q _ H1 s1 (.bl _)⟩⟩⟩
theorem evt_val {k : Bool} (ha : Ev .any X env own a (.bool k)) (he : ∀ whole, isTrue a X.env whole = (do let v ← whole; standAt a.pos; holding [v] (truthy v)) := by intro _; rfl) : EvT X env own a k := ⟨fun pins s σ H Q I ⟨H0, Z, q⟩ =>
  pt_val ha.h he pins s σ H Q I ⟨H0, Z, fun x H1 s1 r1 => ⟨k, r1.toBool, q H1 s1⟩⟩⟩
theorem evt_not {k : Bool} (ha : EvT X env own a k) : EvT X env own (.UnaryOp .Not a pos) (!k) := ⟨fun pins s σ H Q I ⟨H0, Z, q⟩ =>
  pt_not ha.h pins s σ H Q I ⟨H0, Z, fun H1 s1 => q H1 s1⟩⟩
theorem EvW.t {k : Bool} (h : EvW X env own a k) : EvT X env own a k := ⟨PW.pt h.h⟩
theorem evw_and1 {k : Bool} (ha : EvT X env own a k) : EvW X env own (.BoolOp .And [a] pos) k := ⟨pw_and1 ha.h⟩
theorem evw_or1 {k : Bool} (ha : EvT X env own a k) : EvW X env own (.BoolOp .Or [a] pos) k := ⟨pw_or1 ha.h⟩
theorem evw_and {rest : List Expr} {k k' : Bool} (ha : EvT X env own a k) (hb : k = true → EvW X env own (.BoolOp .And (b :: rest) pos) k') : EvW X env own (.BoolOp .And (a :: b :: rest) pos) (k && k') := ⟨fun wh pins s σ H Q I ⟨H0, Z, q⟩ => by
  have hb' : PW X (.BoolOp .And (b :: rest) pos) (fun σ H Q => k = true ∧ tEvT X.K env own k' σ H Q) := fun wh pins s σ H Q I ⟨h, z⟩ => (hb h).h wh pins s σ H Q I z
  refine pw_and ha.h hb' wh pins s σ H Q I ⟨H0, Z, fun H1 s1 => ?_⟩
  cases k with
  | false => exact iteF (q H1 s1)
  | true => exact iteT ⟨rfl, H0, Z.step s1, fun H3 s3 => q H3 (s1.trans s3)⟩⟩
theorem evw_or {rest : List Expr} {k k' : Bool} (ha : EvT X env own a k) (hb : k = false → EvW X env own (.BoolOp .Or (b :: rest) pos) k') : EvW X env own (.BoolOp .Or (a :: b :: rest) pos) (k || k') := ⟨fun wh pins s σ H Q I ⟨H0, Z, q⟩ => by
  have hb' : PW X (.BoolOp .Or (b :: rest) pos) (fun σ H Q => k = false ∧ tEvT X.K env own k' σ H Q) := fun wh pins s σ H Q I ⟨h, z⟩ => (hb h).h wh pins s σ H Q I z
  refine pw_or ha.h hb' wh pins s σ H Q I ⟨H0, Z, fun H1 s1 => ?_⟩
  cases k with
  | true => exact iteT (q H1 s1)
  | false => exact iteF ⟨rfl, H0, Z.step s1, fun H3 s3 => q H3 (s1.trans s3)⟩⟩
end
end L2

set_option Elab.async false
set_option linter.all false
set_option maxRecDepth 100000
set_option maxHeartbeats 4000000
/-! Values as data, part 3: items, slices, calls -/
namespace L2
open PySem PySem.Spec PyProof.Rows
/-- the same data, said otherwise -/
theorem ev_as {m : Md} {X : Cx} {env : Nv} {own : Own} {e : Expr} {d d' : PyData} (h : Ev m X env own e d) (q : d = d') : Ev m X env own e d' := q ▸ h
/-! ### a[b] -/
class IxD (da di : PyData) (d : outParam PyData) (side : outParam Prop) : Prop where
  ok : side → ∀ {X : Cx} {A : Option Addr → Prop}, ∃ r : R2, IxR X r ∧ ∀ x y H Q, Rep X.K A H x da → Rep X.K (fun _ => True) H y di → (∀ z, Rep X.K A H z d → Q z H) → r x y H Q
theorem atI_rep {K : PySem.W.Frag} {A : Option Addr → Prop} {H : Hp} {xs : List V} {ds : List PyData} {i : Int} {d : PyData} (h : RepAll K A H xs ds) (e : atI ds i = some d) : ∃ x, atI xs i = some x ∧ Rep K A H x d := by
  unfold atI at e ⊢
  rw [h.length]
  cases q : ixN ds.length i with
  | none => rw [q] at e; cases e
  | some j =>
    rw [q] at e
    exact h.get (i := j) e
theorem ix_tupD {ds : List PyData} {i : Int} {d : PyData} (e : atI ds i = some d) : ∀ {X : Cx} {A : Option Addr → Prop}, ∃ r : R2, IxR X r ∧ ∀ x y H Q, Rep X.K A H x (.tuple ds) → Rep X.K (fun _ => True) H y (.int i) → (∀ z, Rep X.K A H z d → Q z H) → r x y H Q := fun {X A} =>
  ⟨_, ix_tup, fun x y H Q rx ry q => by
    obtain ⟨a, xs, rfl, h1, h2⟩ := rx.toTup
    obtain ⟨z, h3, h4⟩ := atI_rep h2 e
    exact ⟨a, xs, i, z, rfl, ry.toInt, h1, h3, q z h4⟩⟩
theorem ix_lstD {ds : List PyData} {i : Int} {d : PyData} (e : atI ds i = some d) : ∀ {X : Cx} {A : Option Addr → Prop}, ∃ r : R2, IxR X r ∧ ∀ x y H Q, Rep X.K A H x (.list ds) → Rep X.K (fun _ => True) H y (.int i) → (∀ z, Rep X.K A H z d → Q z H) → r x y H Q := fun {X A} =>
  ⟨_, ix_list, fun x y H Q rx ry q => by
    obtain ⟨a, xs, rfl, h1, h2⟩ := rx.toList
    obtain ⟨z, h3, h4⟩ := atI_rep h2 e
    exact ⟨a, xs, i, z, rfl, ry.toInt, h1.sq, h3, q z h4⟩⟩
noncomputable instance ixT0 (a : PyData) (r : List PyData) : IxD (.tuple (a :: r)) (.int 0) a True := ⟨fun _ {_ _} => ix_tupD (show atI _ ((0 : Nat) : Int) = _ from atI_nat rfl)⟩
noncomputable instance ixT1 (a b : PyData) (r : List PyData) : IxD (.tuple (a :: b :: r)) (.int 1) b True := ⟨fun _ {_ _} => ix_tupD (show atI _ ((1 : Nat) : Int) = _ from atI_nat rfl)⟩
noncomputable instance ixM0 {α : Type} (f : α → PyData) (a : α) (r : List α) : IxD (.tuple (List.map f (a :: r))) (.int 0) (f a) True := ⟨fun _ {_ _} => ix_tupD (show atI _ ((0 : Nat) : Int) = _ from atI_nat rfl)⟩
noncomputable instance ixM1 {α : Type} (f : α → PyData) (a b : α) (r : List α) : IxD (.tuple (List.map f (a :: b :: r))) (.int 1) (f b) True := ⟨fun _ {_ _} => ix_tupD (show atI _ ((1 : Nat) : Int) = _ from atI_nat rfl)⟩
noncomputable instance ixM2 {α : Type} (f : α → PyData) (a b c : α) (r : List α) : IxD (.tuple (List.map f (a :: b :: c :: r))) (.int 2) (f c) True := ⟨fun _ {_ _} => ix_tupD (show atI _ ((2 : Nat) : Int) = _ from atI_nat rfl)⟩
noncomputable instance ixLM0 {α : Type} (f : α → PyData) (a : α) (r : List α) : IxD (.list (List.map f (a :: r))) (.int 0) (f a) True := ⟨fun _ {_ _} => ix_lstD (show atI _ ((0 : Nat) : Int) = _ from atI_nat rfl)⟩
noncomputable instance ixLM1 {α : Type} (f : α → PyData) (a b : α) (r : List α) : IxD (.list (List.map f (a :: b :: r))) (.int 1) (f b) True := ⟨fun _ {_ _} => ix_lstD (show atI _ ((1 : Nat) : Int) = _ from atI_nat rfl)⟩
theorem atI_map {α : Type} [Inhabited α] {f : α → PyData} {xs : List α} {i : Int} (h : 0 ≤ i ∧ i < xs.length) : atI (xs.map f) i = some (f (xs.getD i.toNat default)) := by
  have h2 : i.toNat < xs.length := by lia
  unfold atI ixN
  rw [List.length_map, if_pos h.1, if_pos h.2]
  simp [h2]
noncomputable instance (priority := low) ixL {α : Type} [Inhabited α] (f : α → PyData) (xs : List α) (i : Int) : IxD (.list (xs.map f)) (.int i) (f (xs.getD i.toNat default)) (0 ≤ i ∧ i < xs.length) := ⟨fun h {_ _} => ix_lstD (atI_map h)⟩
noncomputable instance (priority := low) ixTM {α : Type} [Inhabited α] (f : α → PyData) (xs : List α) (i : Int) : IxD (.tuple (xs.map f)) (.int i) (f (xs.getD i.toNat default)) (0 ≤ i ∧ i < xs.length) := ⟨fun h {_ _} => ix_tupD (atI_map h)⟩
noncomputable instance ixS (l : List Nat) (i : Int) : IxD (.str (tx l)) (.int i) (.str (tx [l.getD i.toNat 0])) (0 ≤ i ∧ i < l.length ∧ l.length ≤ 100000) := ⟨fun h {_ _} => ⟨_, ix_str, fun x y H Q rx ry q => by
  have h2 : i.toNat < l.length := by lia
  refine ⟨tx l, i, l.getD i.toNat 0, rx.toStr, ry.toInt, by rw [tx_len]; exact Nat.le_trans h.2.2 big_line, ?_, q _ (.str _)⟩
  show atI l.toArray.toList i = _
  unfold atI ixN
  rw [List.toList_toArray, if_pos h.1, if_pos h.2.1]
  simp [h2]⟩⟩
section
variable {X : Cx} {m : Md} {env : Nv} {own : Own} {d da db : PyData} {a b c : Expr} {pos : Pos}
theorem ev_ixA {ma : Md} {side : Prop} (ha : Ev ma X env own a da) (hb : Ev .any X env own b db) [B : IxD da db d side] [F : Fit ma m d] (hs : side := by trivial) (hp : PlainIx b := by exact fun _ _ => rfl) : Ev m X env own (.Subscript a b pos) d := ⟨fun pins s σ H Q I ⟨H0, Z, q⟩ => by
  obtain ⟨r, hr, hq⟩ := B.ok hs (X := X) (A := ma.A own H0 H)
  refine pe_ix hr ha.h hb.h hp pins s σ H Q I ⟨H0, Z, fun x H1 s1 r1 => ⟨H0, Z.step s1, fun y H2 s2 r2 => ?_⟩⟩
  exact hq x y H2 Q (r1.mono s2.ext) r2 fun z r3 => q z H2 (s1.trans s2) (F.ok Z r3)⟩
theorem ev_ix {side : Prop} (ha : Ev .any X env own a da) (hb : Ev .any X env own b db) [B : IxD da db d side] [F : Fit .any m d] (hs : side := by trivial) (hp : PlainIx b := by exact fun _ _ => rfl) : Ev m X env own (.Subscript a b pos) d := ev_ixA ha hb hs hp
end
/-! ### slices -/
structure EvO (X : Cx) (env : Nv) (own : Own) (e : Option Expr) (o : Option Int) : Prop where
  h : PO X e (fun σ H Q => ∃ H0, Sta X.K H0 H σ env own ∧ ∀ H', Same H H' → Q o H')
section
variable {X : Cx} {m : Md} {env : Nv} {own : Own} {d da db : PyData} {a b c : Expr} {pos p2 : Pos}
theorem evo_none : EvO X env own none none := ⟨fun pins s σ H Q I ⟨H0, Z, q⟩ => po_none pins s σ H Q I (q H (Same.refl H))⟩
theorem evo_some {i : Int} (h : Ev .any X env own a (.int i)) : EvO X env own (some a) (some i) := ⟨fun pins s σ H Q I ⟨H0, Z, q⟩ => po_some h.h pins s σ H Q I ⟨H0, Z, fun x H1 s1 r1 => ⟨i, r1.toInt, q H1 s1⟩⟩⟩
end
class SlD (da : PyData) (lo hi : Option Int) (d : outParam PyData) (lst : outParam Bool) (side : outParam Prop) : Prop where
  ok : side → ∀ {X : Cx} {A : Option Addr → Prop}, ∃ r : V → Option Int → Option Int → Hp → VK → Prop, SlR X r ∧ ∀ x H Q, (lst = true → ∀ p, H p = none → A (some p)) → Rep X.K A H x da → (∀ z H', Same H H' → Rep X.K A H' z d → Q z H') → r x lo hi H Q
theorem ev_sl {X : Cx} {m : Md} {env : Nv} {own : Own} {d da : PyData} {a : Expr} {l h : Option Expr} {lo hi : Option Int} {lst : Bool} {side : Prop} {pos p2 : Pos} (ha : Ev m X env own a da) (hl : EvO X env own l lo) (hh : EvO X env own h hi) [B : SlD da lo hi d lst side] (hs : side := by trivial) (hm : lst = true → m ≠ .imm := by decide) :
    Ev m X env own (.Subscript a (.Slice l h none p2) pos) d := ⟨fun pins s σ H Q I ⟨H0, Z, q⟩ => by
  obtain ⟨r, hr, hq⟩ := B.ok hs (X := X) (A := m.A own H0 H)
  refine pe_slice hr ha.h hl.h hh.h pins s σ H Q I ⟨H0, Z, fun x H1 s1 r1 => ⟨H0, Z.step s1, fun H2 s2 => ⟨H0, (Z.step s1).step s2, fun H3 s3 => ?_⟩⟩⟩
  have Z3 := ((Z.step s1).step s2).step s3
  exact hq x H3 Q (fun hl p hp => Md.A.down (s1.trans (s2.trans s3)) (Z3.newA hp (hm hl))) (r1.mono (s2.trans s3).ext) fun z H4 s4 r4 => q z H4 (s1.trans (s2.trans (s3.trans s4))) r4⟩
theorem slL_rep {K : PySem.W.Frag} {A : Option Addr → Prop} {H : Hp} {xs : List V} {ds : List PyData} (h : RepAll K A H xs ds) (lo hi : Option Int) : RepAll K A H (cutV xs lo hi) ((ds.drop (HT.sIx ds.length 0 lo)).take (HT.sIx ds.length ds.length hi - HT.sIx ds.length 0 lo)) := by
  unfold cutV
  rw [h.length]
  exact (h.drop _).take _
theorem sl_lstD {ds : List PyData} {lo hi : Option Int} {d : List PyData} (e : (ds.drop (HT.sIx ds.length 0 lo)).take (HT.sIx ds.length ds.length hi - HT.sIx ds.length 0 lo) = d) : ∀ {X : Cx} {A : Option Addr → Prop}, ∃ r : V → Option Int → Option Int → Hp → VK → Prop, SlR X r ∧ ∀ x H Q, (true = true → ∀ p, H p = none → A (some p)) → Rep X.K A H x (.list ds) → (∀ z H', Same H H' → Rep X.K A H' z (.list d) → Q z H') → r x lo hi H Q := fun {X A} =>
  ⟨_, sl_list, fun x H Q hp rx q => by
    obtain ⟨a, xs, rfl, h1, h2⟩ := rx.toList
    refine ⟨a, xs, rfl, h1.sq, fun p hn => q _ _ (same_new hn _) (.lst (.inl ⟨upd_same, hp rfl p hn⟩) ?_)⟩
    rw [← e]
    exact (slL_rep h2 lo hi).mono (same_new hn _).ext⟩
theorem sIx_cut (n d : Nat) (i : Int) (h : 0 ≤ i) : HT.sIx n d (some i) = min i.toNat n := by
  have e : i = ((i.toNat : Nat) : Int) := by lia
  rw [e, HT.sIx_nat, Int.toNat_natCast]
noncomputable instance slTake (ds : List PyData) (i : Int) : SlD (.list ds) none (some i) (.list (ds.take i.toNat)) true (0 ≤ i) := ⟨fun h {_ _} => sl_lstD (by
  rw [HT.sIx_none, sIx_cut _ _ _ h, List.drop_zero, Nat.sub_zero]
  by_cases q : i.toNat ≤ ds.length
  · rw [Nat.min_eq_left q]
  · rw [Nat.min_eq_right (by lia), List.take_of_length_le (Nat.le_refl _), List.take_of_length_le (by lia)])⟩
noncomputable instance (priority := high) slTakeM {α : Type} (f : α → PyData) (xs : List α) (i : Int) : SlD (.list (xs.map f)) none (some i) (.list ((xs.take i.toNat).map f)) true (0 ≤ i) := ⟨fun h {_ _} => by rw [List.map_take]; exact (slTake (xs.map f) i).ok h⟩
end L2

set_option Elab.async false
set_option linter.all false
set_option maxRecDepth 100000
set_option maxHeartbeats 4000000
/-! Values as data, part 4: calls, loops' sources, comprehensions -/
namespace L2
open PySem PySem.Spec PyProof.Rows
/-! ### built-in functions and types -/
noncomputable def newA (H : Hp) : Option Addr → Prop
  | some a => H a = none
  | none => False
class CallD (f : Value) (ds : List PyData) (d : outParam PyData) (side : outParam Prop) : Prop where
  ok : side → ∀ {X : Cx}, X.calm = true → X.A.units + 64 < cLine → ∃ r : List V → Hp → VK → Prop, CallR X f r ∧ ∀ xs H Q, RepAll X.K (fun _ => True) H xs ds → (∀ z H', Same H H' → Rep X.K (newA H) H' z d → Q z H') → r xs H Q
section
variable {X : Cx} {m : Md} {env : Nv} {own : Own} {d : PyData} {e : Expr} {es : List Expr} {ds : List PyData} {x : Str} {p pos : Pos}
theorem tEv_call {r : List V → Hp → VK → Prop} [F : Fit .new m d] (hq : ∀ xs H Q, RepAll X.K (fun _ => True) H xs ds → (∀ z H', Same H H' → Rep X.K (newA H) H' z d → Q z H') → r xs H Q) {σ : St} {H : Hp} {Q : VK} (h : tEv m X.K env own d σ H Q) : tCB r (tEvA .any X.K env own ds) σ H Q := by
  obtain ⟨H0, Z, q⟩ := h
  refine ⟨H0, Z, fun vs H1 s1 r1 => hq vs H1 Q (r1.weak fun _ _ => trivial) fun z H2 s2 r2 => q z H2 (s1.trans s2) (F.ok Z (r2.weak fun o w => ?_))⟩
  cases o with
  | none => exact w.elim
  | some a => exact same_none s1 w
theorem ev_callB {id : String} {side : Prop} (hc : X.calm = true) (hu : X.A.units + 64 < cLine) (hg : Gl X x) (hm : X.mg x = none) (hv : bootBuiltins x = some (.builtin id)) (ha : EvA .any X env own (e :: es) ds) [B : CallD (.builtin id) ds d side] [F : Fit .new m d] (hs : side := by trivial)
    (hn : x ≠ "__name__" := by decide) (hdb : (x == ("__debug__" : Str)) = false := by decide) (he : starEach (e :: es) X.env = (false, eval e X.env) :: starEach es X.env := by rfl) (hpl : (backTo pos (starEach es X.env)).any (·.1) = false := by rfl) :
    Ev m X env own (.Call (.Name x p) (e :: es) [] pos) d := by
  obtain ⟨r, hr, hq⟩ := B.ok hs (X := X) hc hu
  exact Ev.of (pe_callB hr hg hm hv ha.h hn hdb he hpl) fun σ H Q h => tEv_call hq h
theorem ev_callTy {T : String} {side : Prop} (hc : X.calm = true) (hu : X.A.units + 64 < cLine) (hg : Gl X x) (hm : X.mg x = none) (hv : bootBuiltins x = some (.type T)) (ha : EvA .any X env own (e :: es) ds) [B : CallD (.type T) ds d side] [F : Fit .new m d] (hs : side := by trivial)
    (hn : x ≠ "__name__" := by decide) (hdb : (x == ("__debug__" : Str)) = false := by decide) (he : starEach (e :: es) X.env = (false, eval e X.env) :: starEach es X.env := by rfl) (hpl : (backTo pos (starEach es X.env)).any (·.1) = false := by rfl) :
    Ev m X env own (.Call (.Name x p) (e :: es) [] pos) d := by
  obtain ⟨r, hr, hq⟩ := B.ok hs (X := X) hc hu
  exact Ev.of (pe_callTy hr hg hm hv ha.h hn hdb he hpl) fun σ H Q h => tEv_call hq h
end
theorem RepAll.one {K : PySem.W.Frag} {A : Option Addr → Prop} {H : Hp} {xs : List V} {d : PyData} (h : RepAll K A H xs [d]) : ∃ x, xs = [x] ∧ Rep K A H x d := by
  cases h with
  | cons a b => cases b; exact ⟨_, rfl, a⟩
theorem RepAll.two {K : PySem.W.Frag} {A : Option Addr → Prop} {H : Hp} {xs : List V} {d e : PyData} (h : RepAll K A H xs [d, e]) : ∃ x y, xs = [x, y] ∧ Rep K A H x d ∧ Rep K A H y e := by
  cases h with
  | cons a b =>
    obtain ⟨y, rfl, r⟩ := b.one
    exact ⟨_, _, rfl, a, r⟩
class LenD (d : PyData) (n : outParam Nat) (side : outParam Prop) : Prop where
  ok : side → ∀ {X : Cx}, ∃ r : List V → Hp → VK → Prop, CallR X (.builtin "len") r ∧ ∀ x H Q, Rep X.K (fun _ => True) H x d → Q (.int (n : Int)) H → r [x] H Q
noncomputable instance (priority := low) lenL (ds : List PyData) : LenD (.list ds) ds.length True := ⟨fun _ {X} => ⟨_, call_len_seq, fun x H Q rx q => by
  obtain ⟨a, xs, rfl, h1, h2⟩ := rx.toList
  exact ⟨a, xs, rfl, .inl h1.sq, by rw [h2.length]; exact q⟩⟩⟩
noncomputable instance lenLM {α : Type} (f : α → PyData) (xs : List α) : LenD (.list (xs.map f)) xs.length True := ⟨fun h {X} => by have := (lenL (xs.map f)).ok h (X := X); rwa [List.length_map] at this⟩
noncomputable instance (priority := low) lenS (z : Str) : LenD (.str z) z.length (z.length ≤ 100000) := ⟨fun h {X} => ⟨_, call_len_str, fun x H Q rx q => ⟨z, by rw [rx.toStr], Nat.le_trans h big_line, q⟩⟩⟩
noncomputable instance lenX (l : List Nat) : LenD (.str (tx l)) l.length (l.length ≤ 100000) := ⟨fun h {X} => by have := (lenS (tx l)).ok (by rw [tx_len]; exact h) (X := X); rwa [tx_len] at this⟩
noncomputable instance callLen (d : PyData) (n : Nat) (side : Prop) [B : LenD d n side] : CallD (.builtin "len") [d] (.int (n : Int)) side := ⟨fun h {X} _ _ => by
  obtain ⟨r, hr, hq⟩ := B.ok h (X := X)
  refine ⟨r, hr, fun xs H Q rx q => ?_⟩
  obtain ⟨x, rfl, r1⟩ := rx.one
  exact hq x H Q r1 (q _ H (Same.refl H) (.int _))⟩
noncomputable instance callMin (i j : Int) : CallD (.builtin "min") [.int i, .int j] (.int (if j < i then j else i)) True := ⟨fun _ {X} hc _ => ⟨_, call_min2 hc, fun xs H Q rx q => by
  obtain ⟨x, y, rfl, r1, r2⟩ := rx.two
  exact ⟨i, j, by rw [r1.toInt, r2.toInt], q _ H (Same.refl H) (.int _)⟩⟩⟩
noncomputable instance callSortI (ns : List Int) : CallD (.builtin "sorted") [.list (ns.map .int)] (.list ((sortI ns).map .int)) (ns.length < 64) := ⟨fun h {X} _ _ => ⟨_, call_sortedI, fun xs H Q rx q => by
  obtain ⟨x, rfl, r1⟩ := rx.one
  obtain ⟨a, ys, rfl, h1, h2⟩ := r1.toList
  have e := h2.of_ints
  subst e
  exact ⟨a, ns, rfl, h1.sq, h, fun l hl => q _ _ (same_new hl _) (.lst (.inl ⟨upd_same, hl⟩) (RepAll.ints _))⟩⟩⟩
noncomputable instance callAll (bs : List Bool) : CallD (.builtin "all") [.list (bs.map .bool)] (.bool (bs.all id)) True := ⟨fun _ {X} hc _ => ⟨_, call_all hc, fun xs H Q rx q => by
  obtain ⟨x, rfl, r1⟩ := rx.one
  obtain ⟨a, ys, rfl, h1, h2⟩ := r1.toList
  have e := h2.of_bools
  subst e
  exact ⟨a, bs, rfl, h1.sq, q _ H (Same.refl H) (.bl _)⟩⟩⟩
noncomputable instance callAllM {α : Type} (f : α → Bool) (xs : List α) : CallD (.builtin "all") [.list (xs.map fun a => .bool (f a))] (.bool (xs.all f)) True := ⟨fun h {X} hc hu => by
  have := (callAll (xs.map f)).ok h (X := X) hc hu
  rw [List.map_map] at this
  have e : (xs.map f).all id = xs.all f := by rw [List.all_map]; rfl
  rw [e] at this
  exact this⟩
noncomputable instance callIntB (b : Bool) : CallD (.type "int") [.bool b] (.int (if b then 1 else 0)) True := ⟨fun _ {X} _ _ => ⟨_, call_int1, fun xs H Q rx q => by
  obtain ⟨x, rfl, r1⟩ := rx.one
  exact .inr ⟨b, by rw [r1.toBool], q _ H (Same.refl H) (.int _)⟩⟩⟩
noncomputable instance callList (ds : List PyData) [ImmL ds] : CallD (.type "list") [.list ds] (.list ds) True := ⟨fun _ {X} _ _ => ⟨_, call_list_of, fun xs H Q rx q => by
  obtain ⟨x, rfl, r1⟩ := rx.one
  obtain ⟨a, ys, rfl, h1, h2⟩ := r1.toList
  exact ⟨a, ys, rfl, .inl h1.sq, fun l hl => q _ _ (same_new hl _) (.lst (.inl ⟨upd_same, hl⟩) (h2.imm.mono (same_new hl _).ext))⟩⟩⟩
/-! ### isinstance -/
noncomputable def tyD : PyData → String
  | .none => "NoneType"
  | .bool _ => "bool"
  | .int _ => "int"
  | .str _ => "str"
  | .list _ => "list"
  | .tuple _ => "tuple"
  | .dict _ => "dict"
theorem Rep.ty {K : PySem.W.Frag} {A : Option Addr → Prop} {H : Hp} {x : V} {d : PyData} (h : Rep K A H x d) : TyE K H x (.type (tyD d)) := by
  cases h with
  | non => exact .old .non
  | bl b => exact .old (.bl b)
  | int i => exact .old (.int i)
  | str z => exact .old (.str z)
  | tup h _ => exact .sqt h
  | lst h _ => exact .sql h.sq
  | dct h _ _ => obtain ⟨ep, q⟩ := h.at'; exact .dct q fun _ ⟨o, _, e1, e2, _⟩ => ⟨o, e1, e2.1⟩
section
variable {X : Cx} {m : Md} {env : Nv} {own : Own} {d : PyData} {a b : Expr} {x y : Str} {p p2 pos : Pos}
/-- isinstance(a, T) -/
theorem ev_isi {T : String} {k : Bool} (hg : Gl X "isinstance") (hm : X.mg "isinstance" = none) (hg2 : Gl X y) (hm2 : X.mg y = none) (hv2 : bootBuiltins y = some (.type T)) (ha : Ev .any X env own a d) (hk : PySem.W.kitOne X.K (.type (tyD d)) (.type T) = some k)
    (hn2 : y ≠ "__name__" := by decide) (hd2 : (y == ("__debug__" : Str)) = false := by decide) (he : starEach [a, .Name y p2] X.env = (false, eval a X.env) :: starEach [.Name y p2] X.env := by rfl) (he2 : starEach [.Name y p2] X.env = (false, eval (.Name y p2) X.env) :: starEach [] X.env := by rfl) (hpl : (backTo pos (starEach [.Name y p2] X.env)).any (·.1) = false := by rfl) :
    Ev m X env own (.Call (.Name "isinstance" p) [a, .Name y p2] [] pos) (.bool k) := by
  refine Ev.of (pe_callB (call_isi (.type T)) hg hm My.boot_isinstance (pa_cons ha.h (pa_cons (pe_bltn (v := .ty T) hg2 hm2 hv2 rfl hn2 hd2) pa_nil he2) he) (by decide) (by decide) he hpl) fun σ H Q ⟨H0, Z, q⟩ => ?_
  exact ⟨H0, Z, fun v H1 s1 r1 => ⟨v, _, _, k, rfl, r1.ty, rfl, hk, q _ H1 s1 (.bl k)⟩⟩
/-- isinstance(e, C) of a caught exception -/
theorem ev_isx {C Cd : Addr} {i : Nat} {k : Bool} (hg : Gl X "isinstance") (hm : X.mg "isinstance" = none) (hg2 : Gl X y) (hm2 : X.mg y = some (.ref Cd)) (hN : X.N[i]? = some x) (hv : Vis X.env.scope x) (hs : env[i]? = some (some (.x C))) (hC : ExcCls X.K C) (hk : PySem.W.kitOne X.K (.ref C) (.ref Cd) = some k)
    (hd : (x == ("__debug__" : Str)) = false := by decide) (hcd : (x == ("__classdict__" : Str)) = false := by decide)
    (hd2 : (y == ("__debug__" : Str)) = false := by decide) (he : starEach [.Name x pos2, .Name y p2] X.env = (false, eval (.Name x pos2) X.env) :: starEach [.Name y p2] X.env := by rfl) (he2 : starEach [.Name y p2] X.env = (false, eval (.Name y p2) X.env) :: starEach [] X.env := by rfl) (hpl : (backTo pos (starEach [.Name y p2] X.env)).any (·.1) = false := by rfl) :
    Ev m X env own (.Call (.Name "isinstance" p) [.Name x pos2, .Name y p2] [] pos) (.bool k) := by
  refine Ev.of (pe_callB (call_isi (.ref Cd)) hg hm My.boot_isinstance (pa_cons (pe_var hN hv hd hcd) (pa_cons (pe_glob (v := .ref Cd) hg2 hm2 rfl hd2) pa_nil he2) he) (by decide) (by decide) he hpl) fun σ H Q ⟨H0, Z, q⟩ => ?_
  obtain ⟨xa, h1, h2⟩ := Z.sl i _ hs
  exact ⟨_, h1, _, _, _, k, rfl, .exc h2 hC, rfl, hk, q _ H (Same.refl H) (.bl k)⟩
theorem ev_isxT {C : Addr} {T : String} {i : Nat} {k : Bool} (hg : Gl X "isinstance") (hm : X.mg "isinstance" = none) (hg2 : Gl X y) (hm2 : X.mg y = none) (hv2 : bootBuiltins y = some (.type T)) (hN : X.N[i]? = some x) (hv : Vis X.env.scope x) (hs : env[i]? = some (some (.x C))) (hC : ExcCls X.K C) (hk : PySem.W.kitOne X.K (.ref C) (.type T) = some k)
    (hd : (x == ("__debug__" : Str)) = false := by decide) (hcd : (x == ("__classdict__" : Str)) = false := by decide) (hn2 : y ≠ "__name__" := by decide)
    (hd2 : (y == ("__debug__" : Str)) = false := by decide) (he : starEach [.Name x pos2, .Name y p2] X.env = (false, eval (.Name x pos2) X.env) :: starEach [.Name y p2] X.env := by rfl) (he2 : starEach [.Name y p2] X.env = (false, eval (.Name y p2) X.env) :: starEach [] X.env := by rfl) (hpl : (backTo pos (starEach [.Name y p2] X.env)).any (·.1) = false := by rfl) :
    Ev m X env own (.Call (.Name "isinstance" p) [.Name x pos2, .Name y p2] [] pos) (.bool k) := by
  refine Ev.of (pe_callB (call_isi (.type T)) hg hm My.boot_isinstance (pa_cons (pe_var hN hv hd hcd) (pa_cons (pe_bltn (v := .ty T) hg2 hm2 hv2 rfl hn2 hd2) pa_nil he2) he) (by decide) (by decide) he hpl) fun σ H Q ⟨H0, Z, q⟩ => ?_
  obtain ⟨xa, h1, h2⟩ := Z.sl i _ hs
  exact ⟨_, h1, _, _, _, k, rfl, .exc h2 hC, rfl, hk, q _ H (Same.refl H) (.bl k)⟩
end
/-! ### defs of the text -/
inductive Res where
  | ok (d : PyData) | er (C : Addr)
/-- what is wanted behind a call (a body): H is the heap at the entry -/
noncomputable def Fin (K : PySem.W.Frag) (H : Hp) (Q : VK) (E : XK) : Res → Prop
  | .ok d => ∀ v H', Same H H' → Rep K (newA H) H' v d → Q v H'
  | .er C => ∀ H', Same H H' → E (.ref C) none H'
noncomputable def spC (K : PySem.W.Frag) (ds : List PyData) (r : Res) : Sp := fun vs H Q E => RepAll K (fun _ => True) H vs ds ∧ Fin K H Q E r
section
variable {X : Cx} {m : Md} {env : Nv} {own : Own} {d : PyData} {e : Expr} {es : List Expr} {ds : List PyData} {x : Str} {p pos : Pos} {k : Nat} {f : Addr} {fd : FuncData} {ps : List Str}
theorem ev_call (F : FnOk X.prog X.w X.K X.mg X.base (CXE X.prog X.w) k f fd ps (spC X.K ds (.ok d))) (hr : Room k X.A) (hg : Gl X x) (hm : X.mg x = some (.ref f)) (hk : PySem.W.keepIn X.K (.ref f) = true) (hb : Binds X.K fd ps []) (ha : EvA .any X env own (e :: es) ds) [T : Fit .new m d]
    (hdb : (x == ("__debug__" : Str)) = false := by decide) (he : starEach (e :: es) X.env = (false, eval e X.env) :: starEach es X.env := by rfl) (hpl : (backTo pos (starEach es X.env)).any (·.1) = false := by rfl) : Ev m X env own (.Call (.Name x p) (e :: es) [] pos) d :=
  Ev.of (pe_call F hr hg hm hk hb .nil passN ha.h hdb he hpl) fun σ H Q ⟨H0, Z, q⟩ => ⟨H0, Z, fun vs H1 s1 r1 => by
    show spC X.K ds (.ok d) (vs ++ []) H1 Q E0
    rw [List.append_nil]
    exact ⟨r1.weak fun _ _ => trivial, fun v H2 s2 r2 => q v H2 (s1.trans s2) (T.ok Z (r2.weak fun o z => by cases o with | none => exact z | some a => exact same_none s1 z))⟩⟩
theorem ev_call0 (F : FnOk X.prog X.w X.K X.mg X.base (CXE X.prog X.w) k f fd ps (spC X.K [] (.ok d))) (hr : Room k X.A) (hg : Gl X x) (hm : X.mg x = some (.ref f)) (hk : PySem.W.keepIn X.K (.ref f) = true) (hb : Binds X.K fd ps []) [T : Fit .new m d]
    (hdb : (x == ("__debug__" : Str)) = false := by decide) : Ev m X env own (.Call (.Name x p) [] [] pos) d :=
  Ev.of (pe_call0 F hr hg hm hk hb .nil passN hdb) fun σ H Q ⟨H0, Z, q⟩ => ⟨.nil, fun v H2 s2 r2 => q v H2 s2 (T.ok Z (r2.weak fun o z => by cases o <;> exact z))⟩
end
/-! ### what a loop walks -/
structure StepsE (K : PySem.W.Frag) (A : Option Addr → Prop) (J : It) (H1 : Hp) (n : Nat) (src : Nat → V) : Prop where
  go : ∀ i H', Ext K A H1 H' → i < n → J.go i H'
  yld : ∀ i H' x H2, Ext K A H1 H' → i < n → J.yld i H' x H2 → H2 = H' ∧ x = src i
  stop : ∀ H', Ext K A H1 H' → J.stop n H'
theorem StepsE.steps {K : PySem.W.Frag} {A : Option Addr → Prop} {J : It} {H1 : Hp} {n : Nat} {src : Nat → V} (S : StepsE K A J H1 n src) : Steps J H1 n src := ⟨fun i H' e => S.go i H' e.ext, fun i H' x H2 e => S.yld i H' x H2 e.ext, fun H' e => S.stop H' e.ext⟩
theorem stepsE_list {K : PySem.W.Frag} {A : Option Addr → Prop} {H1 : Hp} {a : Addr} {xs : List V} (h : SqA K A H1 a xs) : StepsE K A (Itl K a) H1 xs.length (fun i => xs.getD i .non) where
  go := fun i H' e hi => ⟨xs, xs[i], (e.lst _ _ h).sq, by simp [hi]⟩
  yld := fun i H' x H2 e hi y => by
    obtain ⟨y1, y2⟩ := y
    have := y2 xs (e.lst _ _ h).sq
    exact ⟨y1, by simp [List.getD, this]⟩
  stop := fun H' e => ⟨xs, (e.lst _ _ h).sq, Nat.le_refl _⟩
theorem stepsE_tup {K : PySem.W.Frag} {A : Option Addr → Prop} {H1 : Hp} {a : Addr} {xs : List V} (h : SqT K H1 a xs) : StepsE K A (Itt K a) H1 xs.length (fun i => xs.getD i .non) where
  go := fun i H' e hi => ⟨xs, xs[i], e.tup _ _ h, by simp [hi]⟩
  yld := fun i H' x H2 e hi y => by
    obtain ⟨y1, y2⟩ := y
    have := y2 xs (e.tup _ _ h)
    exact ⟨y1, by simp [List.getD, this]⟩
  stop := fun H' e => ⟨xs, e.tup _ _ h, Nat.le_refl _⟩
theorem stepsE_range {K : PySem.W.Frag} {A : Option Addr → Prop} {H1 : Hp} (lo : Int) (n : Nat) : StepsE K A (Itr lo n) H1 n (fun i => .int (lo + i)) where
  go := fun i H' e hi => hi
  yld := fun i H' x H2 e hi y => y
  stop := fun H' e => Nat.le_refl _
theorem stepsE_str {K : PySem.W.Frag} {A : Option Addr → Prop} {H1 : Hp} (x : Str) : StepsE K A (Its x) H1 x.cps.size (fun i => .str ⟨#[x.cps.getD i 0]⟩) where
  go := fun i H' e hi => hi
  yld := fun i H' v H2 e hi y => by
    obtain ⟨y1, c, y2, y3⟩ := y
    exact ⟨y1, by rw [y3]; simp [Array.getD_eq_getD_getElem?, y2]⟩
  stop := fun H' e => Nat.le_refl _
structure Src (K : PySem.W.Frag) (A : Option Addr → Prop) (J : It) (H1 : Hp) (ds : List PyData) : Prop where
  ex : ∃ src : Nat → V, StepsE K A J H1 ds.length src ∧ ∀ (i : Nat) (d : PyData), ds[i]? = some d → Rep K A H1 (src i) d
structure EvI (m : Md) (X : Cx) (env : Nv) (own : Own) (tg iter : Expr) (ds : List PyData) : Prop where
  h : PI X tg iter (fun σ H R => ∃ H0, Sta X.K H0 H σ env own ∧ ∀ J H1, Same H H1 → Src X.K (m.A own H0 H) J H1 ds → R J H1)
theorem PI.of {X : Cx} {tg e : Expr} {t u : TI} (h : PI X tg e t) (q : ∀ σ H Q, u σ H Q → t σ H Q) : PI X tg e u := fun pins s σ H Q I z => h pins s σ H Q I (q σ H Q z)
theorem EvI.of {m : Md} {X : Cx} {env : Nv} {own : Own} {tg e : Expr} {ds : List PyData} {t : TI} (h : PI X tg e t) (q : ∀ σ H R, (∃ H0, Sta X.K H0 H σ env own ∧ ∀ J H1, Same H H1 → Src X.K (m.A own H0 H) J H1 ds → R J H1) → t σ H R) : EvI m X env own tg e ds := ⟨PI.of h q⟩
section
variable {X : Cx} {m : Md} {env : Nv} {own : Own} {d : PyData} {tg a b : Expr} {ds : List PyData} {p pos : Pos}
theorem rep_getD {K : PySem.W.Frag} {A : Option Addr → Prop} {H : Hp} {xs : List V} {ds : List PyData} (h : RepAll K A H xs ds) (i : Nat) (d : PyData) (e : ds[i]? = some d) : Rep K A H (xs.getD i .non) d := by
  obtain ⟨x, h1, h2⟩ := h.get e
  rw [List.getD_eq_getElem?_getD, h1]
  exact h2
theorem evi_list (h : Ev m X env own a (.list ds)) : EvI m X env own tg a ds := EvI.of (pi_list h.h) fun σ H R ⟨H0, Z, q⟩ => ⟨H0, Z, fun v H1 s1 r1 => by
  obtain ⟨p, xs, rfl, h1, h2⟩ := r1.toList
  refine ⟨p, rfl, ⟨xs, h1.sq⟩, q _ H1 s1 ⟨_, ?_, rep_getD h2⟩⟩
  rw [← h2.length]
  exact stepsE_list h1⟩
theorem evi_tup (h : Ev m X env own a (.tuple ds)) : EvI m X env own tg a ds := EvI.of (pi_tup h.h) fun σ H R ⟨H0, Z, q⟩ => ⟨H0, Z, fun v H1 s1 r1 => by
  obtain ⟨p, xs, rfl, h1, h2⟩ := r1.toTup
  refine ⟨p, rfl, ⟨xs, h1⟩, q _ H1 s1 ⟨_, ?_, rep_getD h2⟩⟩
  rw [← h2.length]
  exact stepsE_tup h1⟩
noncomputable abbrev chr (c : Nat) : PyData := .str (tx [c])
theorem evi_str {y : Str} {yp : Pos} {l : List Nat} (h : Ev m X env own a (.str (tx l))) : EvI m X env own (.Name y yp) a (l.map chr) := EvI.of (pi_str h.h) fun σ H R ⟨H0, Z, q⟩ => ⟨H0, Z, fun v H1 s1 r1 => by
  refine ⟨tx l, r1.toStr, q _ H1 s1 ⟨fun i => .str ⟨#[l.toArray.getD i 0]⟩, ?_, fun i d e => ?_⟩⟩
  · have := stepsE_str (K := X.K) (A := m.A own H0 H) (H1 := H1) (tx l)
    have e : (tx l).cps.size = (l.map chr).length := by simp
    rw [e] at this
    exact this
  · rw [List.getElem?_map] at e
    cases q : l[i]? with
    | none => rw [q] at e; cases e
    | some c =>
      rw [q] at e
      cases e
      have e2 : l.toArray.getD i 0 = c := by simp [Array.getD_eq_getD_getElem?, q]
      show Rep _ _ _ (.str ⟨#[l.toArray.getD i 0]⟩) _
      rw [e2]
      exact .str _⟩
noncomputable abbrev natD (k : Nat) : PyData := .int (k : Int)
noncomputable abbrev fromD (lo : Int) (k : Nat) : PyData := .int (lo + (k : Int))
theorem evi_range1 {n : Int} (hg : Gl X "range") (hm : X.mg "range" = none) (h : Ev .any X env own a (.int n)) (hn : -1000000 ≤ n ∧ n ≤ 1000000) (hs : starEach [a] X.env = (false, eval a X.env) :: starEach [] X.env := by rfl) : EvI m X env own tg (.Call (.Name "range" p) [a] [] pos) ((List.range n.toNat).map natD) :=
  EvI.of (pi_range1 hg hm (pa_cons h.h pa_nil hs) hs) fun σ H R ⟨H0, Z, q⟩ => ⟨H0, Z, fun v H1 s1 r1 => by
    refine ⟨n, by rw [r1.toInt], by lia, by lia, q _ H1 s1 ⟨fun i => .int (0 + (i : Int)), ?_, fun i d e => ?_⟩⟩
    · have := stepsE_range (K := X.K) (A := m.A own H0 H) (H1 := H1) 0 n.toNat
      rw [List.length_map, List.length_range]
      exact this
    · rw [List.getElem?_map] at e
      by_cases hi : i < n.toNat
      · rw [List.getElem?_range hi] at e
        cases e
        show Rep _ _ _ (V.int (0 + (i : Int))) _
        rw [Int.zero_add]
        exact .int _
      · rw [List.getElem?_eq_none (by rw [List.length_range]; lia)] at e
        cases e⟩
theorem evi_range2 {lo n : Int} (hg : Gl X "range") (hm : X.mg "range" = none) (h : Ev .any X env own a (.int lo)) (h2 : Ev .any X env own b (.int n)) (hn : -1000000 ≤ lo ∧ lo ≤ 1000000 ∧ -1000000 ≤ n ∧ n ≤ 1000000) (hs : starEach [a, b] X.env = (false, eval a X.env) :: starEach [b] X.env := by rfl) (hs2 : starEach [b] X.env = (false, eval b X.env) :: starEach [] X.env := by rfl) :
    EvI m X env own tg (.Call (.Name "range" p) [a, b] [] pos) ((List.range (n - lo).toNat).map (fromD lo)) :=
  EvI.of (pi_range2 hg hm (pa_cons h.h (pa_cons h2.h pa_nil hs2) hs) (by rw [hs, hs2]; rfl) hs2) fun σ H R ⟨H0, Z, q⟩ => ⟨H0, Z, fun v H1 s1 r1 => ⟨H0, Z.step s1, fun w H2 s2 r2 => by
    refine ⟨lo, n, by rw [r1.toInt, r2.toInt], by lia, q _ H2 (s1.trans s2) ⟨fun i => .int (lo + (i : Int)), ?_, fun i d e => ?_⟩⟩
    · have := stepsE_range (K := X.K) (A := m.A own H0 H) (H1 := H2) lo (n - lo).toNat
      rw [List.length_map, List.length_range]
      exact this
    · rw [List.getElem?_map] at e
      by_cases hi : i < (n - lo).toNat
      · rw [List.getElem?_range hi] at e
        cases e
        exact .int _
      · rw [List.getElem?_eq_none (by rw [List.length_range]; lia)] at e
        cases e⟩⟩
end
/-- how data is walked -/
class IterD (d : PyData) (ds : outParam (List PyData)) : Prop where
  ok : ∀ {m : Md} {X : Cx} {env : Nv} {own : Own} {y : Str} {yp : Pos} {a : Expr}, Ev m X env own a d → EvI m X env own (.Name y yp) a ds
noncomputable instance iterL (ds : List PyData) : IterD (.list ds) ds := ⟨fun {_ _ _ _ _ _ _} h => evi_list h⟩
noncomputable instance iterT (ds : List PyData) : IterD (.tuple ds) ds := ⟨fun {_ _ _ _ _ _ _} h => evi_tup h⟩
noncomputable instance iterS (l : List Nat) : IterD (.str (tx l)) (l.map chr) := ⟨fun {_ _ _ _ _ _ _} h => evi_str h⟩
theorem evi_val {m : Md} {X : Cx} {env : Nv} {own : Own} {y : Str} {yp : Pos} {a : Expr} {d : PyData} {ds : List PyData} (h : Ev m X env own a d) [B : IterD d ds] : EvI m X env own (.Name y yp) a ds := B.ok h
end L2

set_option Elab.async false
set_option linter.all false
set_option maxRecDepth 100000
set_option maxHeartbeats 4000000
/-! Values as data, part 5: comprehensions -/
namespace L2
open PySem PySem.Spec PyProof.Rows
theorem comp_stepsR {K : PySem.W.Frag} {J : It} {H1 : Hp} {n : Nat} {src : Nat → V} (S : Steps J H1 n src) {caps : List (Option Nat)} {σ : St} {tc : TT} {te : TE} {Q : Addr → Hp → Prop} (ds : Nat → List PyData) (h0 : ds 0 = []) (hlen : n ≤ sizeLine) (hc0 : (capt caps σ).set 0 none = capt caps σ)
    (hs : ∀ i H' (R1 : V → Hp → Prop) (R0 : Hp → Prop), i < n → Same H1 H' → (∀ y H5 d, Same H' H5 → Rep K (fun _ => False) H5 y d → ds (i + 1) = ds i ++ [d] → R1 y H5) → (∀ H4, Same H' H4 → ds (i + 1) = ds i → R0 H4) →
      tc ((capt caps σ).set 0 (some (src i))) H' fun b H4 => if b = true then te ((capt caps σ).set 0 (some (src i))) H4 R1 else R0 H4)
    (hend : ∀ D ys H', Same H1 H' → H1 D = none → H' D = some (.lst ys) → RepAll K (fun _ => False) H' ys (ds n) → Q D H') :
    ∀ D, H1 D = none → ∃ W : Nat → Nat → List V → St → Hp → Prop, (∃ m, W 0 m [] (capt caps σ) (upd H1 D (.lst []))) ∧ ∀ i m ys σ' H', W i m ys σ' H' → H' D = some (.lst ys) →
      (J.stop i H' ∧ Q D H') ∨ (J.go i H' ∧ ys.length < sizeLine ∧ ∀ x H2, J.yld i H' x H2 → gName 0 x σ' H2 fun σ2 H3 => tc σ2 H3 fun b H4 =>
        if b = true then te σ2 H4 fun y H5 => H5 D = some (.lst ys) ∧ ∃ m', m' < m ∧ W (i + 1) m' (ys ++ [y]) σ2 (upd H5 D (.lst (ys ++ [y])))
        else H4 D = some (.lst ys) ∧ ∃ m', m' < m ∧ W (i + 1) m' ys σ2 H4) := by
  intro D hD
  refine ⟨fun i m ys σ' H' => m = n - i ∧ i ≤ n ∧ ys.length ≤ i ∧ (∃ v, σ' = (capt caps σ).set 0 v) ∧ Same H1 H' ∧ RepAll K (fun _ => False) H' ys (ds i), ⟨n, rfl, Nat.zero_le _, Nat.le_refl _, ⟨none, hc0.symm⟩, same_new hD _, by rw [h0]; exact .nil⟩, ?_⟩
  rintro i m ys σ' H' ⟨rfl, hi, hy, ⟨v, rfl⟩, sm, td⟩ hDH
  by_cases hlt : i < n
  · refine .inr ⟨S.go i H' sm hlt, Nat.lt_of_lt_of_le (Nat.lt_of_le_of_lt hy hlt) hlen, fun x H2 y => ?_⟩
    obtain ⟨e1, e2⟩ := S.yld i H' x H2 sm hlt y
    subst e1 e2
    show tc (((capt caps σ).set 0 v).set 0 (some (src i))) H2 _
    rw [List.set_set]
    refine hs i H2 _ _ hlt sm (fun y H5 d s5 t5 e5 => ?_) fun H4 s4 e4 => ?_
    · have hD5 := s5 _ _ hDH
      refine ⟨hD5, n - (i + 1), by lia, rfl, hlt, by rw [List.length_append, List.length_singleton]; lia, ⟨_, rfl⟩, fun b o q => ?_, ?_⟩
      · have nb : b ≠ D := ne_of_none q hD
        rw [upd_ne nb]
        exact s5 _ _ (sm _ _ q)
      · rw [e5]
        have tl : Ext K (fun _ => False) H5 (upd H5 D (.lst (ys ++ [y]))) := Ext.put hD5 fun z => z
        exact ((td.mono s5.ext).mono tl).append (.cons (t5.mono tl) .nil)
    · exact ⟨s4 _ _ hDH, n - (i + 1), by lia, rfl, hlt, by lia, ⟨_, rfl⟩, sm.trans s4, by rw [e4]; exact td.mono s4.ext⟩
  · have e : i = n := by lia
    subst e
    exact .inl ⟨S.stop H' sm, hend D ys H' sm hD hDH td⟩
/-! ### the block's names -/
noncomputable def capE (caps : List (Option Nat)) (env : Nv) : Nv := caps.map fun o => match o with
  | none => none
  | some j => (env[j]?).join
theorem Sta.block {K : PySem.W.Frag} {H0 H : Hp} {σ : St} {env : Nv} {own : Own} (Z : Sta K H0 H σ env own) (caps : List (Option Nat)) {v : V} {d : PyData} (r : Rep K (fun _ => False) H v d) : Sta K H0 H ((capt caps σ).set 0 (some v)) ((capE caps env).set 0 (some (.d d))) own := by
  refine ⟨by rw [List.length_set, List.length_set]; unfold capE capt; rw [List.length_map, List.length_map], Z.same, fun i s h => ?_, Z.ow, Z.nd⟩
  cases i with
  | zero =>
    cases hc : capE caps env with
    | nil => rw [hc] at h; cases h
    | cons c r2 =>
      rw [hc] at h
      have e : s = .d d := by simpa using h.symm
      subst e
      cases ht : capt caps σ with
      | nil =>
        have l1 : (capE caps env).length = (capt caps σ).length := by unfold capE capt; rw [List.length_map, List.length_map]
        rw [hc, ht] at l1; cases l1
      | cons c2 r3 => exact ⟨v, rfl, r.weak fun _ z => z.elim⟩
  | succ i =>
    have h' : (capE caps env)[i + 1]? = some (some s) := by simpa using h
    have goal : SlOk K H0 H own (capt caps σ)[i + 1]? s := by
      unfold capE at h'
      rw [List.getElem?_map] at h'
      unfold capt
      rw [List.getElem?_map]
      cases hc : caps[i + 1]? with
      | none => rw [hc] at h'; cases h'
      | some o =>
        rw [hc] at h'
        cases o with
        | none => cases h'
        | some j =>
          have e1 : (env[j]?).join = some s := by simpa using h'
          have e2 : env[j]? = some (some s) := by
            cases q : env[j]? with
            | none => rw [q] at e1; cases e1
            | some u => rw [q] at e1; rw [← e1]; rfl
          have z := Z.sl j s e2
          have fix : ∀ w : V, σ[j]? = some (some w) → (Option.map (fun o : Option Nat => match o with | none => (none : Option V) | some j => (σ[j]?).join) (some (some j))) = some (some w) := fun w hw => by
            show some ((σ[j]?).join) = some (some w)
            rw [hw]; rfl
          cases s with
          | d x => obtain ⟨w, h1, h2⟩ := z; exact ⟨w, fix w h1, h2⟩
          | f x => obtain ⟨w, h1, h2⟩ := z; exact ⟨w, fix w h1, h2⟩
          | o k => obtain ⟨a, c, h1, h2⟩ := z; exact ⟨a, c, h1, fix _ h2⟩
          | x C => obtain ⟨a, h1, h2⟩ := z; exact ⟨a, fix _ h1, h2⟩
    have e3 : ((capt caps σ).set 0 (some v))[i + 1]? = (capt caps σ)[i + 1]? := by simp
    rw [e3]
    exact goal
/-! ### the tests -/
structure EvIf (X : Cx) (env : Nv) (own : Own) (ifs : List Expr) (b : Bool) : Prop where
  h : PIfs X ifs (tEvT X.K env own b)
theorem evif_nil {X : Cx} {env : Nv} {own : Own} : EvIf X env own [] true := ⟨fun pins s σ H Q I ⟨H0, Z, q⟩ => pif_nil pins s σ H Q I (q H (Same.refl H))⟩
theorem evif_one {X : Cx} {env : Nv} {own : Own} {c : Expr} {b : Bool} (h : EvT X env own c b) : EvIf X env own [c] b := ⟨pif_one h.h⟩
/-! ### the rule -/
noncomputable abbrev tcOf {α : Type} (K : PySem.W.Frag) (caps : List (Option Nat)) (env : Nv) (own : Own) (enc : α → PyData) (xs : List α) (g : α → Bool) : TT := fun σ H Q => ∃ a, a ∈ xs ∧ tEvT K ((capE caps env).set 0 (some (.d (enc a)))) own (g a) σ H Q
noncomputable abbrev teOf {α : Type} (K : PySem.W.Frag) (caps : List (Option Nat)) (env : Nv) (own : Own) (enc : α → PyData) (xs : List α) (g : α → Bool) (f : α → PyData) : TE := fun σ H Q => ∃ a, a ∈ xs ∧ g a = true ∧ tEv .imm K ((capE caps env).set 0 (some (.d (enc a)))) own (f a) σ H Q
section
variable {X : Cx} {m : Md} {env : Nv} {own : Own} {scope : Scope} {y : Str} {yp : Pos} {iter elt : Expr} {ifs : List Expr} {pos : Pos} {α : Type} {enc : α → PyData} {xs : List α} {f : α → PyData} {g : α → Bool}
theorem comp_core {N' : List Str} {caps : List (Option Nat)} [hI : ∀ a, Imm (enc a)] (hlen : xs.length ≤ 100000) (h0 : ∃ r, caps = none :: r) {σ : St} {H0 H : Hp} (Z : Sta X.K H0 H σ env own) {J : It} {H1 : Hp} (s1 : Same H H1) (S : Src X.K (Md.any.A own H0 H) J H1 (xs.map enc)) {Q : Addr → Hp → Prop}
    (q : ∀ D H', Same H H' → Rep X.K (newA H) H' (.ref D) (.list ((xs.filter g).map f)) → Q D H') :
    ∀ D, H1 D = none → ∃ W : Nat → Nat → List V → St → Hp → Prop, (∃ m, W 0 m [] (capt caps σ) (upd H1 D (.lst []))) ∧ ∀ i m ys σ' H', W i m ys σ' H' → H' D = some (.lst ys) →
      (J.stop i H' ∧ Q D H') ∨ (J.go i H' ∧ ys.length < sizeLine ∧ ∀ x H2, J.yld i H' x H2 → gName 0 x σ' H2 fun σ2 H3 => tcOf X.K caps env own enc xs g σ2 H3 fun b H4 =>
        if b = true then teOf X.K caps env own enc xs g f σ2 H4 fun y H5 => H5 D = some (.lst ys) ∧ ∃ m', m' < m ∧ W (i + 1) m' (ys ++ [y]) σ2 (upd H5 D (.lst (ys ++ [y])))
        else H4 D = some (.lst ys) ∧ ∃ m', m' < m ∧ W (i + 1) m' ys σ2 H4) := by
  obtain ⟨src, S0, S2⟩ := S.ex
  have S1 := S0.steps
  rw [List.length_map] at S1
  obtain ⟨cr, hcr⟩ := h0
  refine comp_stepsR (K := X.K) (tc := tcOf X.K caps env own enc xs g) (te := teOf X.K caps env own enc xs g f) S1 (fun i => ((xs.take i).filter g).map f) rfl (Nat.le_trans hlen big_line) (show (capt caps σ).set 0 none = capt caps σ by rw [hcr]; rfl) (fun i H' R1 R0 hi sm k1 k0 => ?_) fun D ys H' sm hD hDH td => ?_
  · have hx : (xs.map enc)[i]? = some (enc xs[i]) := by rw [List.getElem?_map, List.getElem?_eq_getElem hi]; rfl
    have hr : Rep X.K (fun _ => False) H' (src i) (enc xs[i]) := ((S2 i _ hx).imm (B := fun _ => False)).mono sm.ext
    have Z1 := ((Z.step s1).step sm).block caps hr
    have et : xs.take (i + 1) = xs.take i ++ [xs[i]] := by rw [List.take_add_one]; simp [hi]
    refine ⟨xs[i], List.getElem_mem hi, H0, Z1, fun H4 s4 => ?_⟩
    cases hg : g xs[i] with
    | true =>
      refine iteT ⟨xs[i], List.getElem_mem hi, hg, H0, Z1.step s4, fun v H5 s5 r5 => k1 v H5 (f xs[i]) (s4.trans s5) (r5.weak fun o z => by cases o <;> exact z) ?_⟩
      rw [et, List.filter_append, List.map_append]
      simp [hg]
    | false =>
      refine iteF (k0 H4 s4 ?_)
      rw [et, List.filter_append, List.map_append]
      simp [hg]
  · refine q D H' (s1.trans sm) (.lst (.inl ⟨hDH, same_none s1 hD⟩) ?_)
    have e : xs.take xs.length = xs := List.take_length
    rw [e] at td
    exact td.weak fun _ z => z.elim
theorem ev_comp (N : List Str) (st : Stmt) (N' : List Str) (caps : List (Option Nat)) (hN : X.N = N) (hS : X.env.scope = defScope st) (hc : X.calm = true) (hi : EvI .any X env own (.Name y yp) iter (xs.map enc)) (hg : ∀ C fp s H, PG (blockCx X N' scope C fp s H) (.Name y yp) (gName 0))
    (ht : ∀ C fp s H, ∀ a, a ∈ xs → EvIf (blockCx X N' scope C fp s H) ((capE caps env).set 0 (some (.d (enc a)))) own ifs (g a)) (he : ∀ C fp s H, ∀ a, a ∈ xs → g a = true → Ev .imm (blockCx X N' scope C fp s H) ((capE caps env).set 0 (some (.d (enc a)))) own elt (f a))
    [hI : ∀ a, Imm (enc a)] [F : Fit .new m (.list ((xs.filter g).map f))] (hlen : xs.length ≤ 100000) (h0 : ∃ r, caps = none :: r := by exact ⟨_, rfl⟩) (ok : compOk N (defScope st) N' caps scope = true := by decide +kernel) (hs : ∀ x, foldedSetIterable iter X.env x = pure x := by intro _; rfl) :
    Ev m X env own (.ListComp elt [⟨.Name y yp, iter, ifs, 0⟩] scope pos) (.list ((xs.filter g).map f)) := by
  refine Ev.of (pe_compS (te := teOf X.K caps env own enc xs g f) (tc := tcOf X.K caps env own enc xs g) N st N' caps hN hS hc hi.h hg
    (fun C fp s H pins s' σ' H' Q I ⟨a, ha, z⟩ => (ht C fp s H a ha).h pins s' σ' H' Q I z) (fun C fp s H pins s' σ' H' Q I ⟨a, ha, hga, z⟩ => (he C fp s H a ha hga).h pins s' σ' H' Q I z) ok hs) fun σ H Q ⟨H0, Z, q⟩ => ?_
  exact ⟨H0, Z, fun J H1 s1 S => comp_core (N' := N') hlen h0 Z s1 S fun D H' sm r => q _ H' sm (F.ok Z (r.weak fun o z => by cases o <;> exact z))⟩
theorem filter_true' {l : List α} : l.filter (fun _ => true) = l := by simp
theorem ev_comp0 (N : List Str) (st : Stmt) (N' : List Str) (caps : List (Option Nat)) (hN : X.N = N) (hS : X.env.scope = defScope st) (hc : X.calm = true) (hi : EvI .any X env own (.Name y yp) iter (xs.map enc)) (hg : ∀ C fp s H, PG (blockCx X N' scope C fp s H) (.Name y yp) (gName 0))
    (he : ∀ C fp s H, ∀ a, a ∈ xs → Ev .imm (blockCx X N' scope C fp s H) ((capE caps env).set 0 (some (.d (enc a)))) own elt (f a))
    [hI : ∀ a, Imm (enc a)] [F : Fit .new m (.list (xs.map f))] (hlen : xs.length ≤ 100000) (h0 : ∃ r, caps = none :: r := by exact ⟨_, rfl⟩) (ok : compOk N (defScope st) N' caps scope = true := by decide +kernel) (hs : ∀ x, foldedSetIterable iter X.env x = pure x := by intro _; rfl) :
    Ev m X env own (.ListComp elt [⟨.Name y yp, iter, [], 0⟩] scope pos) (.list (xs.map f)) := by
  have e : (.list (xs.map f) : PyData) = .list ((xs.filter fun _ => true).map f) := by rw [filter_true']
  have F' : Fit .new m (.list ((xs.filter fun _ => true).map f)) := e ▸ F
  rw [e]
  exact ev_comp (g := fun _ => true) N st N' caps hN hS hc hi hg (fun _ _ _ _ _ _ => evif_nil) (fun C fp s H a ha _ => he C fp s H a ha) hlen h0 ok hs
end
end L2

set_option Elab.async false
set_option linter.all false
set_option maxRecDepth 100000
set_option maxHeartbeats 4000000
/-! Values as data, part 6: statements -/
namespace L2
open PySem PySem.Spec PyProof.Rows
/-- the statements run from σ, H to the ends D -/
structure W (X : Cx) (D : Ends) (sts : List Stmt) (σ : St) (H : Hp) : Prop where
  h : ∀ pins s, Inv X pins σ H s → wpAny (model X.prog X.w) X.A (execs sts X.env) (SP X pins D) X.xe s
section
variable {X : Cx} {D : Ends} {st : Stmt} {rest : List Stmt} {σ : St} {H H0 : Hp} {env : Nv} {own : Own} {d : PyData} {e : Expr} {x : Str} {i : Nat} {px pos : Pos}
theorem W.cons {t : TS} (h : PS X st t) (q : t { D with nx := fun σ H => W X D rest σ H } σ H) : W X D (st :: rest) σ H := ⟨fun pins s I => by
  refine wpAny_execs_cons (thn (h pins s σ H _ I q) fun f s1 q => ?_)
  cases f with
  | next =>
    obtain ⟨σ', H', I', q⟩ := q
    exact q.h pins s1 I'
  | ret v => exact q
  | brk => exact q
  | cont => exact q⟩
theorem W.nil (h : D.nx σ H) : W X D [] σ H := ⟨fun pins s I => wpAny_execs_nil ⟨σ, H, I, h⟩⟩
theorem W.pss {sts : List Stmt} : PSs X sts (fun D σ H => W X D sts σ H) := fun pins s σ H D I h => h.h pins s I
/-! ### names -/
theorem Sta.setS {K : PySem.W.Frag} (Z : Sta K H0 H σ env own) (i : Nat) (v : V) {s : Sl} (h : SlOk K H0 H own (some (some v)) s) : Sta K H0 H (σ.set i (some v)) (env.set i (some s)) own := by
  refine ⟨by rw [List.length_set, List.length_set]; exact Z.len, Z.same, fun j s' e => ?_, Z.ow, Z.nd⟩
  by_cases hj : i = j
  · subst hj
    by_cases hl : i < env.length
    · rw [List.getElem?_set_self hl] at e
      cases e
      rw [List.getElem?_set_self (by rw [← Z.len]; exact hl)]
      exact h
    · rw [List.getElem?_eq_none (by rw [List.length_set]; lia)] at e
      cases e
  · rw [List.getElem?_set_ne hj] at e ⊢
    exact Z.sl j s' e
theorem Sta.set {K : PySem.W.Frag} (Z : Sta K H0 H σ env own) (i : Nat) {v : V} {d : PyData} {H1 : Hp} (r : Rep K (Md.A .safe own H0 H1) H v d) : Sta K H0 H (σ.set i (some v)) (env.set i (some (.d d))) own :=
  Z.setS i v ⟨v, rfl, r.weak fun o q => by cases o <;> exact q⟩
theorem Sta.setF {K : PySem.W.Frag} (Z : Sta K H0 H σ env own) (i : Nat) {v : V} {d : PyData} {H1 : Hp} (r : Rep K (Md.A .fresh own H0 H1) H v d) : Sta K H0 H (σ.set i (some v)) (env.set i (some (.f d))) own :=
  Z.setS i v ⟨v, rfl, r.weak fun o q => by cases o <;> exact q⟩
/-- a new list becomes owned -/
theorem Sta.take {K : PySem.W.Frag} (Z : Sta K H0 H σ env own) (i : Nat) {v : V} {ds : List PyData} {H1 : Hp} (hs : ∀ o, L2.newA H1 o → Md.A .fresh own H0 H o) (old : ∀ (j : Nat) (s : Sl), env[j]? = some (some s) → SlOk K H0 H1 own σ[j]? s) (e : Same H1 H) [im : ImmL ds] (r : Rep K (L2.newA H1) H v (.list ds)) :
    ∃ a, Sta K H0 H (σ.set i (some v)) (env.set i (some (.o own.length))) (own ++ [(a, .l ds)]) := by
  obtain ⟨a, xs, rfl, h1, h2⟩ := r.toList
  rcases h1 with ⟨h1, hn⟩ | ⟨_, hn⟩
  · have hf := hs (some a) hn
    refine ⟨a, by rw [List.length_set, List.length_set]; exact Z.len, Z.same, fun j s' q => ?_, fun p hp => ?_, ?_⟩
    · by_cases hj : i = j
      · subst hj
        by_cases hl : i < env.length
        · rw [List.getElem?_set_self hl] at q
          cases q
          rw [List.getElem?_set_self (by rw [← Z.len]; exact hl)]
          exact ⟨a, .l ds, by simp, rfl⟩
        · rw [List.getElem?_eq_none (by rw [List.length_set]; lia)] at q
          cases q
      · rw [List.getElem?_set_ne hj] at q ⊢
        have w := old j s' q
        have up : ∀ {m : Md} {v : V} {d : PyData}, (∀ b, b ≠ a → m.A own H0 H0 (some b) → m.A (own ++ [(a, Ow.l ds)]) H0 H0 (some b)) → (m.A own H0 H0 none → m.A (own ++ [(a, Ow.l ds)]) H0 H0 none) → Rep K (m.A own H0 H0) H1 v d → Rep K (m.A (own ++ [(a, Ow.l ds)]) H0 H0) H v d := fun {m v d} hb h0 r => by
          have r2 : Rep K (fun o => m.A own H0 H0 o ∧ o ≠ some a) H1 v d := r.avoid hn
          exact (r2.mono e.ext).weak fun o z => by
            cases o with
            | none => exact h0 z.1
            | some b => exact hb b (fun q => z.2 (by rw [q])) z.1
        have mem : ∀ b, b ≠ a → b ∉ own.map (·.1) → b ∉ (own ++ [(a, Ow.l ds)]).map (·.1) := fun b hb hm hq => by
          rw [List.map_append, List.mem_append] at hq
          rcases hq with hq | hq
          · exact hm hq
          · exact hb (by simpa using hq)
        cases s' with
        | d x => obtain ⟨u, k1, k2⟩ := w; exact ⟨u, k1, up (m := .safe) mem (fun z => z) k2⟩
        | f x => obtain ⟨u, k1, k2⟩ := w; exact ⟨u, k1, up (m := .fresh) (fun b hb z => ⟨mem b hb z.1, z.2⟩) (fun z => z) k2⟩
        | o k => obtain ⟨b, c, k1, k2⟩ := w; exact ⟨b, c, by rw [List.getElem?_append_left (List.getElem?_eq_some_iff.mp k1).1]; exact k1, k2⟩
        | x C => obtain ⟨b, k1, k2⟩ := w; exact ⟨b, k1, e _ _ k2⟩
    · rcases List.mem_append.mp hp with hp | hp
      · exact Z.ow p hp
      · have e2 : p = (a, Ow.l ds) := by simpa using hp
        subst e2
        exact ⟨hf.2, xs, h1, h2.imm⟩
    · rw [List.map_append]
      refine List.nodup_append.mpr ⟨Z.nd, by simp, fun b hb c hc q => ?_⟩
      have e3 : c = a := by simpa using hc
      subst e3
      subst q
      exact hf.1 hb
  · exact hn.elim
/-! ### assignment -/
variable {m : Md}
theorem w_setM (hN : X.N.Nodup) (hi : X.N[i]? = some x) (hx : Loc X.env.scope x) (Z : Sta X.K H0 H σ env own) (he : Ev m X env own e d) (k : ∀ v H', Same H H' → Sta X.K H0 H' σ env own → Rep X.K (m.A own H0 H) H' v d → W X D rest (σ.set i (some v)) H')
    (hs : swapsWith e (some (.Name x px)) pos.line X.env = pure false := by rfl) (hf : X.fn x = true ∨ X.env.scope.names.lookup x = some .local := by first | exact .inl rfl | exact .inr rfl | assumption) : W X D (.Assign [.Name x px] e pos :: rest) σ H :=
  W.cons (ps_set hN hi hx he.h hs hf) ⟨H0, Z, fun v H1 s1 r1 => k v H1 s1 (Z.step s1) r1⟩
theorem w_set (hN : X.N.Nodup) (hi : X.N[i]? = some x) (hx : Loc X.env.scope x) (Z : Sta X.K H0 H σ env own) (he : Ev .safe X env own e d) (k : ∀ σ' H', Sta X.K H0 H' σ' (env.set i (some (.d d))) own → W X D rest σ' H')
    (hs : swapsWith e (some (.Name x px)) pos.line X.env = pure false := by rfl) (hf : X.fn x = true ∨ X.env.scope.names.lookup x = some .local := by first | exact .inl rfl | exact .inr rfl | assumption) : W X D (.Assign [.Name x px] e pos :: rest) σ H :=
  w_setM hN hi hx Z he (fun v H1 s1 Z1 r1 => k _ H1 (Z1.set i r1)) hs hf
theorem w_setF (hN : X.N.Nodup) (hi : X.N[i]? = some x) (hx : Loc X.env.scope x) (Z : Sta X.K H0 H σ env own) (he : Ev .fresh X env own e d) (k : ∀ σ' H', Sta X.K H0 H' σ' (env.set i (some (.f d))) own → W X D rest σ' H')
    (hs : swapsWith e (some (.Name x px)) pos.line X.env = pure false := by rfl) (hf : X.fn x = true ∨ X.env.scope.names.lookup x = some .local := by first | exact .inl rfl | exact .inr rfl | assumption) : W X D (.Assign [.Name x px] e pos :: rest) σ H :=
  w_setM hN hi hx Z he (fun v H1 s1 Z1 r1 => k _ H1 (Z1.setF i r1)) hs hf
theorem w_own {ds : List PyData} [ImmL ds] (hN : X.N.Nodup) (hi : X.N[i]? = some x) (hx : Loc X.env.scope x) (Z : Sta X.K H0 H σ env own) (he : Ev .new X env own e (.list ds)) (k : ∀ a σ' H', Sta X.K H0 H' σ' (env.set i (some (.o own.length))) (own ++ [(a, .l ds)]) → W X D rest σ' H')
    (hs : swapsWith e (some (.Name x px)) pos.line X.env = pure false := by rfl) (hf : X.fn x = true ∨ X.env.scope.names.lookup x = some .local := by first | exact .inl rfl | exact .inr rfl | assumption) : W X D (.Assign [.Name x px] e pos :: rest) σ H :=
  w_setM hN hi hx Z he (fun v H1 s1 Z1 r1 => by
    obtain ⟨a, Z2⟩ := Z1.take i (v := v) (H1 := H) (fun o z => by cases o with | none => exact z.elim | some b => exact ⟨Z.notown z, same_none Z.same z⟩) Z.sl s1 (r1.weak fun o z => by cases o <;> exact z)
    exact k a _ H1 Z2) hs hf
/-! ### expression statements, return, if -/
theorem w_ret {E : XK} {d' : PyData} (Z : Sta X.K H0 H σ env own) (q : Fin X.K H0 D.rt E (.ok d')) (he : Ev .fresh X env own e d) (h : d = d') : W X D (.Return (some e) pos :: rest) σ H :=
  W.cons (ps_ret he.h) ⟨H0, Z, fun v H1 s1 r1 => by
    subst h
    exact q v H1 (Z.step s1).same (r1.weak fun o z => by cases o with | none => exact z | some a => exact z.2)⟩
/-- return x, x owned -/
theorem w_retO {E : XK} {k : Nat} {a : Addr} {ds : List PyData} {d' : PyData} {p2 : Pos} (Z : Sta X.K H0 H σ env own) (q : Fin X.K H0 D.rt E (.ok d')) (hN : X.N[i]? = some x) (hv : Vis X.env.scope x) (he : env[i]? = some (some (.o k))) (ho : own[k]? = some (a, .l ds)) (h : (.list ds : PyData) = d')
    (hd : (x == ("__debug__" : Str)) = false := by decide) (hcd : (x == ("__classdict__" : Str)) = false := by decide) : W X D (.Return (some (.Name x p2)) pos :: rest) σ H :=
  W.cons (ps_ret (pe_var hN hv hd hcd)) (by
    subst h
    obtain ⟨b, c, h1, h2⟩ := Z.sl i _ he
    rw [ho] at h1
    cases h1
    obtain ⟨h3, ys, h4, h5⟩ := Z.ow _ (List.mem_of_getElem? ho)
    exact ⟨_, h2, q _ H Z.same (.lst (.inl ⟨h4, h3⟩) (h5.weak fun _ z => z.elim))⟩)
/-- the body ends -/
theorem w_end {E : XK} {Q : VK} {d' : PyData} (Z : Sta X.K H0 H σ env own) (q : Fin X.K H0 Q E (.ok d')) (h : .none = d') (hD : D.nx = fun _ H' => Q .non H') : W X D [] σ H := W.nil (by rw [hD]; subst h; exact q _ H Z.same .non)
theorem w_if {c : Expr} {a b : List Stmt} {k : Bool} (Z : Sta X.K H0 H σ env own) (hc : EvT X env own c k) (ha : k = true → ∀ H', Sta X.K H0 H' σ env own → W X { D with nx := fun σ H => W X D rest σ H } a σ H') (hb : k = false → ∀ H', Sta X.K H0 H' σ env own → W X { D with nx := fun σ H => W X D rest σ H } b σ H') : W X D (.If c a b pos :: rest) σ H :=
  W.cons (ps_if hc.h W.pss W.pss) ⟨H0, Z, fun H1 s1 => ifK (fun h => ha h H1 (Z.step s1)) fun h => hb h H1 (Z.step s1)⟩
/-! ### calls that may raise, as statements -/
section
variable {k : Nat} {f : Addr} {fd : FuncData} {ps : List Str} {ds : List PyData} {es : List Expr} {E : XK} {r r' : Res} {p pos2 : Pos} {y : Str}
/-- f(e, ..) by itself -/
theorem w_call (F : FnOk X.prog X.w X.K X.mg X.base (CXE X.prog X.w) k f fd ps (spC X.K ds r)) (hr : Room k X.A) (hg : Gl X y) (hm : X.mg y = some (.ref f)) (hk : PySem.W.keepIn X.K (.ref f) = true) (hb : Binds X.K fd ps []) (hE : Passes (CXE X.prog X.w) X E) (Z : Sta X.K H0 H σ env own) (ha : EvA .any X env own (e :: es) ds)
    (kO : ∀ d, r = .ok d → ∀ H', Sta X.K H0 H' σ env own → W X D rest σ H') (kE : ∀ C, r = .er C → ∀ H', Same H0 H' → E (.ref C) none H')
    (hdb : (y == ("__debug__" : Str)) = false := by decide) (he : starEach (e :: es) X.env = (false, eval e X.env) :: starEach es X.env := by rfl) (hpl : (backTo pos2 (starEach es X.env)).any (·.1) = false := by rfl) (hs : swapsWith (.Call (.Name y p) (e :: es) [] pos2) none pos.line X.env = pure false := by rfl) : W X D (.Expr (.Call (.Name y p) (e :: es) [] pos2) pos :: rest) σ H :=
  W.cons (ps_expr (pe_call F hr hg hm hk hb .nil hE ha.h hdb he hpl) hs) ⟨H0, Z, fun vs H1 s1 r1 => by
    show spC X.K ds r (vs ++ []) H1 _ E
    rw [List.append_nil]
    refine ⟨r1.weak fun _ _ => trivial, ?_⟩
    have Z1 := Z.step s1
    cases r with
    | ok d => exact fun v H2 s2 r2 => kO d rfl H2 (Z1.step s2)
    | er C => exact fun H2 s2 => kE C rfl H2 (Z1.step s2).same⟩
end
/-! ### raise C(f'{e!r} text') -/
theorem w_raiseF {C : Addr} {E : XK} {y z : Str} {p p1 p2 p3 pos2 : Pos} {k : Nat} {r0 : Res} (hE : Raises X E) (hg : Gl X y) (hm : X.mg y = some (.ref C)) (hc : X.calm = true) (hx : PySem.W.excIn X.K C veTail "ValueError.__new__" = true) (hgd : X.A.guards = some []) (hu : X.A.units + 64 < cLine) (Z : Sta X.K H0 H σ env own) (he : Ev .any X env own e d)
    (q : Fin X.K H0 D.rt E r0) (h : r0 = .er C) (w1 : d.showable = true) (w2 : d.hasDict = false) (w3 : d.depth ≤ 60) (w4 : d.shown.length + z.length ≤ 100000)
    (hs : starEach [.JoinedStr [.FormattedValue e 114 none p1, .Constant (.str z) k p2] p3] X.env = (false, eval (.JoinedStr [.FormattedValue e 114 none p1, .Constant (.str z) k p2] p3) X.env) :: starEach [] X.env := by rfl) (hpl : (backTo pos2 (starEach [] X.env)).any (·.1) = false := by rfl) (hd : (y == ("__debug__" : Str)) = false := by decide) :
    W X D (.Raise (some (.Call (.Name y p) [.JoinedStr [.FormattedValue e 114 none p1, .Constant (.str z) k p2] p3] [] pos2)) none pos :: rest) σ H :=
  W.cons (ps_raise hE hc hg hm hx (pa_cons (pe_fstr hgd hu he.h) pa_nil hs) hs hpl hd) ⟨H0, Z, fun v H1 s1 r1 => ⟨d, r1.dat0 w2, w1, w2, w3, w4, fun _ => ⟨line1000 (Nat.le_of_ble_eq_true rfl), by subst h; exact q H1 (Z.step s1).same⟩⟩⟩
end
end L2

set_option Elab.async false
set_option linter.all false
set_option maxRecDepth 100000
set_option maxHeartbeats 4000000
/-! Values as data, part 7: loops, owned lists, try -/
namespace L2
open PySem PySem.Spec PyProof.Rows
/-- names whose data is new since the entry become plain ones -/
noncomputable def unF : Nv → Nv := List.map fun o => match o with
  | some (.f x) => some (.d x)
  | o => o
section
variable {X : Cx} {D : Ends} {rest body : List Stmt} {σ : St} {H H0 H1 : Hp} {env : Nv} {own : Own} {d : PyData} {e iter c : Expr} {x y : Str} {i : Nat} {px pos yp : Pos} {K : PySem.W.Frag}
/-- all but the owned things -/
noncomputable def lessOwn (H : Hp) (own : Own) : Hp := fun b => if b ∈ own.map (·.1) then none else H b
theorem less_in {b : Addr} {o : HO} (h : lessOwn H own b = some o) : H b = some o ∧ b ∉ own.map (·.1) := by
  unfold lessOwn at h
  split at h
  · cases h
  · exact ⟨h, by assumption⟩
theorem less_of {b : Addr} {o : HO} (h : H b = some o) (hb : b ∉ own.map (·.1)) : lessOwn H own b = some o := by
  unfold lessOwn
  rw [if_neg hb]
  exact h
theorem Sta.rebase (Z : Sta K H0 H σ env own) : Sta K (lessOwn H own) H σ (unF env) own ∧ Same H0 (lessOwn H own) := by
  have hs : Same H0 (lessOwn H own) := fun b o h => less_of (Z.same _ _ h) fun hm => by
    obtain ⟨p, hp, rfl⟩ := List.mem_map.mp hm
    rw [(Z.ow p hp).1] at h
    cases h
  refine ⟨⟨by unfold unF; rw [List.length_map]; exact Z.len, fun b o h => (less_in h).1, fun j s h => ?_, fun p hp => ⟨?_, (Z.ow p hp).2⟩, Z.nd⟩, hs⟩
  · unfold unF at h
    rw [List.getElem?_map] at h
    cases q : env[j]? with
    | none => rw [q] at h; cases h
    | some t =>
      rw [q] at h
      cases t with
      | none => cases h
      | some s' =>
        have z := Z.sl j s' q
        cases s' with
        | d u => cases h; obtain ⟨v, h1, h2⟩ := z; exact ⟨v, h1, h2.weak fun o w => by cases o <;> exact w⟩
        | f u => cases h; obtain ⟨v, h1, h2⟩ := z; exact ⟨v, h1, h2.weak fun o w => by cases o with | none => trivial | some a => exact w.1⟩
        | o k => cases h; exact z
        | x C => cases h; exact z
  · unfold lessOwn
    rw [if_pos (List.mem_map.mpr ⟨p, hp, rfl⟩)]
theorem Sta.unbase (e : Same H0 H1) (Z : Sta K H1 H σ env own) : Sta K H0 H σ env own := by
  refine ⟨Z.len, e.trans Z.same, fun j s h => ?_, fun p hp => ⟨same_none e (Z.ow p hp).1, (Z.ow p hp).2⟩, Z.nd⟩
  have z := Z.sl j s h
  cases s with
  | d u => obtain ⟨v, h1, h2⟩ := z; exact ⟨v, h1, h2.weak fun o w => by cases o <;> exact w⟩
  | f u => obtain ⟨v, h1, h2⟩ := z; exact ⟨v, h1, h2.weak fun o w => by cases o with | none => exact w | some a => exact ⟨w.1, same_none e w.2⟩⟩
  | o k => exact z
  | x C => exact z
/-- what A speaks of stays as long as the base does -/
theorem Sta.stays (Z : Sta K H0 H σ env own) {H2 : Hp} (s : Same (lessOwn H own) H2) : Ext K (Md.A .safe own H0 H) H H2 := by
  have nol : ∀ {b : Addr} {o : HO}, H b = some o → ((∀ ys, o ≠ .lst ys) ∧ ∀ φ, o ≠ .ext φ) → b ∉ own.map (·.1) := fun {b o} h hl hm => by
    obtain ⟨p, hp, rfl⟩ := List.mem_map.mp hm
    obtain ⟨a, c⟩ := p
    cases c with
    | l ds =>
      obtain ⟨ys, h1, _⟩ := (Z.ow (a, .l ds) hp).2
      have h' : H a = some o := h
      rw [h1] at h'
      exact hl.1 ys (Option.some.inj h').symm
    | d kvs =>
      obtain ⟨ys, h1, _⟩ := (Z.ow (a, .d kvs) hp).2
      have h' : H a = some o := h
      obtain ⟨ep, q⟩ := h1.at'
      rw [q] at h'
      exact hl.2 _ (Option.some.inj h').symm
    | r kvs =>
      obtain ⟨ys, h1, _⟩ := (Z.ow (a, .r kvs) hp).2
      have h' : H a = some o := h
      obtain ⟨ep, q⟩ := h1.at'
      rw [q] at h'
      exact hl.2 _ (Option.some.inj h').symm
  refine ⟨fun a xs h => ?_, fun a xs h => ?_, fun a xs ep h ha => s _ _ (less_of h ha)⟩
  · rcases h with (h | ⟨ob, h⟩) | h
    · exact .inl (.inl (s _ _ (less_of h (nol h ⟨fun ys q => (by cases q), fun ys q => (by cases q)⟩))))
    · exact .inl (.inr ⟨ob, s _ _ (less_of h (nol h ⟨fun ys q => (by cases q), fun ys q => (by cases q)⟩))⟩)
    · exact .inr h
  · rcases h with ⟨h, ha⟩ | ⟨h, ha⟩
    · exact .inl ⟨s _ _ (less_of h ha), ha⟩
    · refine .inr ⟨?_, ha⟩
      rcases h with ⟨ob, h⟩ | h
      · exact .inl ⟨ob, s _ _ (less_of h (nol h ⟨fun ys q => (by cases q), fun ys q => (by cases q)⟩))⟩
      · exact .inr h
/-! ### for -/
theorem w_for {α : Type} {enc : α → PyData} {xs : List α} (P : Nat → Nv → Own → Prop) (hp : PassesOwn (model X.prog X.w) X.A X.env X.xe) (hc : X.calm = true) (hN : X.N.Nodup) (hi : X.N[i]? = some y) (hx : Loc X.env.scope y) (Z : Sta X.K H0 H σ env own) (hit : EvI .safe X env own (.Name y yp) iter (xs.map enc)) (h0 : P 0 (unF env) own)
    (step : ∀ B, Same H0 B → ∀ (j : Nat) (a : α) (env : Nv) (own : Own) (σ : St) (H : Hp), xs[j]? = some a → P j env own → Sta X.K B H σ (env.set i (some (.d (enc a)))) own →
      W X { D with nx := fun σ' H' => ∃ env' own', P (j + 1) env' own' ∧ Sta X.K B H' σ' env' own', ct := fun σ' H' => ∃ env' own', P (j + 1) env' own' ∧ Sta X.K B H' σ' env' own', bk := fun σ H => W X D rest σ H } body σ H)
    (done : ∀ (env : Nv) (own : Own) (σ : St) (H : Hp), P xs.length env own → Sta X.K H0 H σ env own → W X D rest σ H) [hI : ∀ a, Imm (enc a)]
    (hs : ∀ x, foldedSetIterable iter X.env x = pure x := by intro _; rfl) (hf : X.fn y = true ∨ X.env.scope.names.lookup y = some .local := by first | exact .inl rfl | exact .inr rfl | assumption) : W X D (.For (.Name y yp) iter body [] pos :: rest) σ H := by
  refine W.cons (ps_for hp hc hit.h (pg_name hN hi hx hf) W.pss hs) ⟨H0, Z, fun J Hs s1 S => ?_⟩
  obtain ⟨src, S1, S2⟩ := S.ex
  rw [List.length_map] at S1
  have Z1 := Z.step s1
  obtain ⟨Z2, hb⟩ := Z1.rebase
  have A1 : ∀ o, Md.A .safe own H0 H o ↔ Md.A .safe own H0 Hs o := fun o => by cases o <;> exact Iff.rfl
  have ext : ∀ {H2 : Hp}, Same (lessOwn Hs own) H2 → Ext X.K (Md.A .safe own H0 H) Hs H2 := fun s => by
    have q := Z1.stays s
    exact ⟨q.tup, fun a xs h => by
      have q2 := q.lst a xs (h.imp (fun z => ⟨z.1, (A1 _).mp z.2⟩) fun z => ⟨z.1, (A1 _).mp z.2⟩)
      exact q2.imp (fun z => ⟨z.1, (A1 _).mpr z.2⟩) fun z => ⟨z.1, (A1 _).mpr z.2⟩, fun a xs ep h w => q.dct a xs ep h ((A1 _).mp w)⟩
  refine ⟨fun j m σ H => m = xs.length - j ∧ j ≤ xs.length ∧ ∃ env' own', P j env' own' ∧ Sta X.K (lessOwn Hs own) H σ env' own', ⟨xs.length, by simp, Nat.zero_le _, _, _, h0, Z2⟩, ?_⟩
  rintro j m σ2 H2 ⟨rfl, hj, env', own', p, Z3⟩
  by_cases hlt : j < xs.length
  · refine .inr ⟨S1.go j H2 (ext Z3.same) hlt, fun σ' H' => ∃ env' own', P (j + 1) env' own' ∧ Sta X.K (lessOwn Hs own) H' σ' env' own', fun σ' H' ⟨e2, o2, p2, z2⟩ => ⟨xs.length - (j + 1), by lia, rfl, hlt, e2, o2, p2, z2⟩, fun v H' yl => ?_⟩
    obtain ⟨e1, e2⟩ := S1.yld j H2 v H' (ext Z3.same) hlt yl
    subst e1 e2
    have hxe : (xs.map enc)[j]? = some (enc xs[j]) := by rw [List.getElem?_map, List.getElem?_eq_getElem hlt]; rfl
    have hr : Rep X.K (fun _ => False) H' (src j) (enc xs[j]) := by
      have r0 := S2 j _ hxe
      exact (r0.mono (ext Z3.same)).imm
    exact step (lessOwn Hs own) hb j xs[j] env' own' _ H' (List.getElem?_eq_getElem hlt) p (Z3.set i (H1 := H') (hr.weak fun _ z => z.elim))
  · have ej : j = xs.length := by lia
    subst ej
    exact .inl ⟨S1.stop H2 (ext Z3.same), done env' own' σ2 H2 p (Z3.unbase hb)⟩
/-! ### while -/
theorem w_while (P : Nat → Nv → Own → Prop) (hp : PassesOwn (model X.prog X.w) X.A X.env X.xe) (Z : Sta X.K H0 H σ env own) {m : Nat} (h0 : P m env own)
    (step : ∀ (m : Nat) (env : Nv) (own : Own), P m env own → ∃ b, EvT X env own c b ∧ ∀ (σ : St) (H : Hp), Sta X.K H0 H σ env own →
      (b = true → W X { D with nx := fun σ' H' => ∃ m' env' own', m' < m ∧ P m' env' own' ∧ Sta X.K H0 H' σ' env' own', ct := fun σ' H' => ∃ m' env' own', m' < m ∧ P m' env' own' ∧ Sta X.K H0 H' σ' env' own', bk := fun σ H => W X D rest σ H } body σ H) ∧ (b = false → W X D rest σ H)) :
    W X D (.While c body [] pos :: rest) σ H := by
  have hc : PT X c (fun σ H Q => ∃ env own b, EvT X env own c b ∧ tEvT X.K env own b σ H Q) := fun pins s σ H Q I ⟨env, own, b, h, z⟩ => h.h pins s σ H Q I z
  refine W.cons (ps_while hp hc W.pss) ⟨fun m σ H => ∃ env own, P m env own ∧ Sta X.K H0 H σ env own, ⟨m, env, own, h0, Z⟩, ?_⟩
  rintro m2 σ2 H2 ⟨env2, own2, p2, Z2⟩
  obtain ⟨b, hb, k⟩ := step m2 env2 own2 p2
  refine ⟨env2, own2, b, hb, H0, Z2, fun H3 s3 => ?_⟩
  have k3 := k σ2 H3 (Z2.step s3)
  refine ifK (fun h => ⟨fun σ' H' => ∃ m' env' own', m' < m2 ∧ P m' env' own' ∧ Sta X.K H0 H' σ' env' own', fun σ' H' ⟨m', e', o', h1, h2, h3⟩ => ⟨m', h1, e', o', h2, h3⟩, k3.1 h⟩) fun h => k3.2 h
/-! ### owned lists -/
theorem Sta.put (Z : Sta K H0 H σ env own) {k : Nat} {a : Addr} {ds es : List PyData} {ys zs : List V} (ho : own[k]? = some (a, .l ds)) (h : H a = some (.lst ys)) (r : RepAll K (fun _ => False) H zs es) : Sta K H0 (upd H a (.lst zs)) σ env (own.set k (a, .l es)) := by
  have hk : k < own.length := (List.getElem?_eq_some_iff.mp ho).1
  have hek : own[k] = (a, .l ds) := (List.getElem?_eq_some_iff.mp ho).2
  have hfst : (own.set k (a, .l es)).map (·.1) = own.map (·.1) := by
    rw [List.map_set]
    apply List.ext_getElem?
    intro n
    by_cases hn : k = n
    · subst hn
      rw [List.getElem?_set_self (by rw [List.length_map]; exact hk), List.getElem?_map, ho]
      rfl
    · rw [List.getElem?_set_ne hn]
  have hmem : a ∈ own.map (·.1) := List.mem_map.mpr ⟨_, List.mem_of_getElem? ho, rfl⟩
  have h0 := (Z.ow _ (List.mem_of_getElem? ho)).1
  have ext : ∀ {A : Option Addr → Prop}, ¬ A (some a) → Ext K A H (upd H a (.lst zs)) := fun hA => Ext.put h hA
  have md : ∀ {m : Md} {o : Option Addr}, m.A own H0 H0 o → m.A (own.set k (a, .l es)) H0 H0 o := fun {m o} z => by
    cases m <;> cases o <;> first | exact z | (simp only [Md.A, hfst] at z ⊢; exact z)
  refine ⟨Z.len, fun b o q => ?_, fun j s q => ?_, fun p hp => ?_, by rw [hfst]; exact Z.nd⟩
  · rw [upd_ne (ne_of_none q h0)]
    exact Z.same _ _ q
  · have z := Z.sl j s q
    cases s with
    | d u => obtain ⟨v, h1, h2⟩ := z; exact ⟨v, h1, (h2.mono (ext (A := Md.safe.A own H0 H0) fun w => w hmem)).weak fun o w => md w⟩
    | f u => obtain ⟨v, h1, h2⟩ := z; exact ⟨v, h1, (h2.mono (ext (A := Md.fresh.A own H0 H0) fun w => w.1 hmem)).weak fun o w => md w⟩
    | o n =>
      obtain ⟨b, c, h1, h2⟩ := z
      by_cases hn : k = n
      · subst hn
        rw [ho] at h1
        cases h1
        exact ⟨a, .l es, by rw [List.getElem?_set_self hk], h2⟩
      · exact ⟨b, c, by rw [List.getElem?_set_ne hn]; exact h1, h2⟩
    | x C =>
      obtain ⟨b, h1, h2⟩ := z
      exact ⟨b, h1, by rw [upd_ne (ne_of h2 h (by intro w; cases w))]; exact h2⟩
  · obtain ⟨n, hn, e⟩ := List.getElem_of_mem hp
    rw [List.length_set] at hn
    by_cases hkn : k = n
    · subst hkn
      rw [List.getElem_set_self] at e
      subst e
      exact ⟨h0, zs, upd_same, r.mono (ext fun w => w)⟩
    · rw [List.getElem_set_ne hkn] at e
      have hp' : p ∈ own := e ▸ List.getElem_mem hn
      obtain ⟨w1, w2⟩ := Z.ow p hp'
      have ne : p.1 ≠ a := fun q => by
        have e1 : (own.map (·.1))[n]? = some p.1 := by rw [List.getElem?_map, List.getElem?_eq_getElem hn, e]; rfl
        have e2 : (own.map (·.1))[k]? = some a := by rw [List.getElem?_map, ho]; rfl
        rw [q] at e1
        obtain ⟨u1, v1⟩ := List.getElem?_eq_some_iff.mp e1
        obtain ⟨u2, v2⟩ := List.getElem?_eq_some_iff.mp e2
        exact hkn ((List.getElem_inj Z.nd).mp (v2.trans v1.symm))
      refine ⟨w1, ?_⟩
      obtain ⟨b, c⟩ := p
      cases c with
      | l gs =>
        obtain ⟨us, k1, k2⟩ := w2
        exact ⟨us, by rw [upd_ne ne]; exact k1, k2.mono (ext fun w => w)⟩
      | d gs =>
        obtain ⟨us, k1, k2⟩ := w2
        exact ⟨us, k1.up fun ep q => by rw [upd_ne ne]; exact q, k2.mono (ext fun w => w)⟩
      | r gs =>
        obtain ⟨us, k1, k2⟩ := w2
        exact ⟨us, k1.up fun ep q => by rw [upd_ne ne]; exact q, k2.mono (ext fun w => w)⟩
section
variable {k : Nat} {a : Addr} {ds : List PyData} {p apos cpos : Pos}
/-- x.append(e) -/
theorem w_append (hN : X.N[i]? = some x) (hv : Vis X.env.scope x) (he : env[i]? = some (some (.o k))) (ho : own[k]? = some (a, .l ds)) (Z : Sta X.K H0 H σ env own) (hd : Ev .imm X env own e d) (kk : ∀ H', Sta X.K H0 H' σ env (own.set k (a, .l (ds ++ [d]))) → W X D rest σ H') (hlen : ds.length ≤ 99999)
    (hbase : attributeBase (.Name x p) "append" X.env (eval (.Name x p) X.env) = eval (.Name x p) X.env := by rfl)
    (hfew : ((backTo cpos (starEach [e] X.env)).all (fun x => !x.1) && (backToKw cpos (keywordEach [] X.env)).all (fun x => x.1.isSome) && decide (([e] : List Expr).length + ([] : List Keyword).length + (if ([] : List Keyword).isEmpty then 0 else 1) < 30)) = true := by rfl)
    (hline : (apos.endLine == cpos.line) = true := by rfl) (hs : starEach [e] X.env = (false, eval e X.env) :: starEach [] X.env := by rfl) (hplain : (backTo cpos (starEach [] X.env)).any (·.1) = false := by rfl)
    (hsw : swapsWith (.Call (.Attribute (.Name x p) "append" apos) [e] [] cpos) none pos.line X.env = pure false := by rfl) (hdb : (x == ("__debug__" : Str)) = false := by decide) (hcd : (x == ("__classdict__" : Str)) = false := by decide) :
    W X D (.Expr (.Call (.Attribute (.Name x p) "append" apos) [e] [] cpos) pos :: rest) σ H := by
  refine W.cons (ps_expr (pe_bm PySem.F.plainAttrs_list PySem.F.slot_list_append PySem.F.type_list_append mt_append (pe_var hN hv hdb hcd) (pa_cons hd.h pa_nil hs) hbase hfew hline hs hplain) hsw) ?_
  obtain ⟨b, c, h1, h2⟩ := Z.sl i _ he
  rw [ho] at h1
  cases h1
  obtain ⟨h3, ys, h4, h5⟩ := Z.ow _ (List.mem_of_getElem? ho)
  refine ⟨_, h2, .inl ⟨rfl, _, .inl (.inl h4)⟩, H0, Z, fun v H1 s1 r1 => ?_⟩
  have Z1 := Z.step s1
  refine ⟨a, ys, v, rfl, rfl, s1 _ _ h4, Nat.lt_of_lt_of_le (by rw [h5.length]; lia) big_line, kk _ (Z1.put ho (s1 _ _ h4) ((h5.mono s1.ext).append (.cons (r1.weak fun o z => by cases o <;> exact z) .nil)))⟩
/-- x.extend(e) -/
theorem w_extend {es : List PyData} [ImmL es] (hN : X.N[i]? = some x) (hv : Vis X.env.scope x) (he : env[i]? = some (some (.o k))) (ho : own[k]? = some (a, .l ds)) (Z : Sta X.K H0 H σ env own) (hd : Ev .fresh X env own e (.list es)) (kk : ∀ H', Sta X.K H0 H' σ env (own.set k (a, .l (ds ++ es))) → W X D rest σ H') (hlen : ds.length + es.length ≤ 100000)
    (hbase : attributeBase (.Name x p) "extend" X.env (eval (.Name x p) X.env) = eval (.Name x p) X.env := by rfl)
    (hfew : ((backTo cpos (starEach [e] X.env)).all (fun x => !x.1) && (backToKw cpos (keywordEach [] X.env)).all (fun x => x.1.isSome) && decide (([e] : List Expr).length + ([] : List Keyword).length + (if ([] : List Keyword).isEmpty then 0 else 1) < 30)) = true := by rfl)
    (hline : (apos.endLine == cpos.line) = true := by rfl) (hs : starEach [e] X.env = (false, eval e X.env) :: starEach [] X.env := by rfl) (hplain : (backTo cpos (starEach [] X.env)).any (·.1) = false := by rfl)
    (hsw : swapsWith (.Call (.Attribute (.Name x p) "extend" apos) [e] [] cpos) none pos.line X.env = pure false := by rfl) (hdb : (x == ("__debug__" : Str)) = false := by decide) (hcd : (x == ("__classdict__" : Str)) = false := by decide) :
    W X D (.Expr (.Call (.Attribute (.Name x p) "extend" apos) [e] [] cpos) pos :: rest) σ H := by
  refine W.cons (ps_expr (pe_bm PySem.F.plainAttrs_list PySem.F.slot_list_extend PySem.F.type_list_extend mt_extend (pe_var hN hv hdb hcd) (pa_cons hd.h pa_nil hs) hbase hfew hline hs hplain) hsw) ?_
  obtain ⟨b, c, h1, h2⟩ := Z.sl i _ he
  rw [ho] at h1
  cases h1
  obtain ⟨h3, ys, h4, h5⟩ := Z.ow _ (List.mem_of_getElem? ho)
  refine ⟨_, h2, .inl ⟨rfl, _, .inl (.inl h4)⟩, H0, Z, fun v H1 s1 r1 => ?_⟩
  have Z1 := Z.step s1
  obtain ⟨b, us, rfl, q1, q2⟩ := r1.toList
  rcases q1 with ⟨q1, q3⟩ | ⟨_, q3⟩
  · refine ⟨a, b, ys, us, rfl, rfl, s1 _ _ h4, q1, Nat.le_trans (by rw [h5.length, q2.length]; exact hlen) big_line, kk _ (Z1.put ho (s1 _ _ h4) ((h5.mono s1.ext).append q2.imm))⟩
  · exact q3.elim
end
end
end L2

set_option Elab.async false
set_option linter.all false
set_option maxRecDepth 100000
set_option maxHeartbeats 4000000
/-! Values as data, part 8: a def's entry, try, texts -/
namespace L2
open PySem PySem.Spec PyProof.Rows PySem.Builtin PySem.Builtin.Str
noncomputable def startE (N : List Str) (ds : List PyData) : Nv := ds.map (fun d => some (.d d)) ++ List.replicate (N.length - ds.length) none
section
variable {P : Program} {w : World} {K : PySem.W.Frag} {mg : Str → Option Value} {base : Heap}
theorem Sta.start {N : List Str} {H : Hp} {vs : List V} {ds : List PyData} (r : RepAll K (fun _ => True) H vs ds) : Sta K H H (L2.start N vs) (startE N ds) [] := by
  refine ⟨?_, Same.refl H, fun i s h => ?_, fun p hp => by simp at hp, by simp⟩
  · unfold L2.start startE
    rw [List.length_append, List.length_append, List.length_map, List.length_map, List.length_replicate, List.length_replicate, r.length]
  · unfold startE at h
    by_cases hi : i < ds.length
    · rw [List.getElem?_append_left (by rw [List.length_map]; exact hi), List.getElem?_map, List.getElem?_eq_getElem hi] at h
      have e : s = .d ds[i] := by simpa using h.symm
      subst e
      obtain ⟨v, h1, h2⟩ := r.get (i := i) (d := ds[i]) (List.getElem?_eq_getElem hi)
      refine ⟨v, ?_, h2.weak fun o _ => ?_⟩
      · unfold L2.start
        rw [List.getElem?_append_left (by rw [List.length_map, r.length]; exact hi), List.getElem?_map, h1]
        rfl
      · cases o with
        | none => trivial
        | some a => exact List.not_mem_nil
    · rw [List.getElem?_append_right (by rw [List.length_map]; lia)] at h
      rw [List.getElem?_replicate] at h
      split at h <;> simp at h
noncomputable abbrev CD (P : Program) (w : World) (K : PySem.W.Frag) (mg : Str → Option Value) (base : Heap) (k : Nat) (f : Addr) (fd : FuncData) (ps : List Str) (ds : List PyData) (r : Res) : Prop := FnOk P w K mg base (CXE P w) k f fd ps (spC K ds r)
theorem Fun.okC {x qual : Str} {st : Stmt} {f : Addr} {fd : FuncData} {N ps : List Str} {k : Nat} {ds : List PyData} {r : Res} (F : Fun K x qual st f fd) (S : FnScope N ps (defScope st)) (hl : ds.length = ps.length)
    (hbody : ∀ (cdv : Value) (A : Around) (outer : List Env) (s : Shared) (H : Hp) (σ : St) (Q : VK) (E : XK), Room k (A.deeper (envOfC qual (defScope st) s.heap.objs.size f cdv)) → Sta K H H σ (startE N ds) [] → Fin K H Q E r →
      W (cxOf (CXE P w) P w K mg base N qual (defScope st) f cdv A outer s H E) { nx := fun _ H' => Q .non H', rt := Q } (defBody st) σ H) : CD P w K mg base (k + 1) f fd ps ds r :=
  F.okE S (fun vs H Q E h => by rw [h.1.length]; exact hl) fun cdv A outer s H vs Q E hr h => ⟨fun D σ H' => W (cxOf (CXE P w) P w K mg base N qual (defScope st) f cdv A outer s H E) D (defBody st) σ H', W.pss, hbody cdv A outer s H _ Q E hr (Sta.start h.1) h.2⟩
end
section
variable {X : Cx} {m : Md} {env : Nv} {own : Own} {d : PyData}
theorem ev_nm (i : Nat) {x : Str} {pos : Pos} {lv : Md} (hs : slotD own env[i]? = some (lv, d)) [F : Fit lv m d] (hN : X.N[i]? = some x := by rfl) (hv : Vis X.env.scope x := by first | exact Or.inl rfl | exact Or.inr (Or.inl rfl) | exact Or.inr (Or.inr rfl)) (hd : (x == ("__debug__" : Str)) = false := by decide) (hcd : (x == ("__classdict__" : Str)) = false := by decide) :
    Ev m X env own (.Name x pos) d := ev_name hN hv hs hd hcd
/-- a written text, by its signs -/
theorem ev_txt {i : Str} {j pos} (l : List Nat) (h : i = tx l := by decide +kernel) : Ev m X env own (.Constant (.str i) j pos) (.str (tx l)) := h ▸ ev_str
end
section
variable {X : Cx} {D : Ends} {rest : List Stmt} {σ : St} {H H0 : Hp} {env : Nv} {own : Own} {d : PyData} {e : Expr} {i j : Nat}
theorem Sta.unset {K : PySem.W.Frag} (Z : Sta K H0 H σ env own) (j : Nat) : Sta K H0 H (σ.set j none) (env.set j none) own := by
  refine ⟨by rw [List.length_set, List.length_set]; exact Z.len, Z.same, fun n s h => ?_, Z.ow, Z.nd⟩
  by_cases hn : j = n
  · subst hn
    by_cases hl : j < env.length
    · rw [List.getElem?_set_self hl] at h; cases h
    · rw [List.getElem?_eq_none (by rw [List.length_set]; lia)] at h; cases h
  · rw [List.getElem?_set_ne hn] at h ⊢
    exact Z.sl n s h
/-- try: z = f(e, ..) except y as n: suite -/
theorem w_try {k : Nat} {f : Addr} {fd : FuncData} {ps : List Str} {ds : List PyData} {r : Res} {fn z y n : Str} {es : List Expr} {b₀ : Stmt} {suite : List Stmt} {p zp cpos apos pos np hpos : Pos} (F : FnOk X.prog X.w X.K X.mg X.base (CXE X.prog X.w) k f fd ps (spC X.K ds r)) (hr : Room k X.A) (B : Body X)
    (hN : X.N.Nodup) (hi : X.N[i]? = some z) (hz : Loc X.env.scope z) (hgf : Gl X fn) (hmf : X.mg fn = some (.ref f)) (hkf : PySem.W.keepIn X.K (.ref f) = true) (hb : Binds X.K fd ps []) (Z : Sta X.K H0 H σ env own) (ha : EvA .any X.nox env own (e :: es) ds)
    (hj : X.N[j]? = some n) (hk : X.env.scope.names.lookup n = some .local) (hg : Gl X y)
    (kO : ∀ d, r = .ok d → ∀ σ' H', Sta X.K H0 H' σ' (env.set i (some (.f d))) own → W X D rest σ' H')
    (kE : ∀ C, r = .er C → ∃ Cd, X.mg y = some (.ref Cd) ∧ Catches X.K C Cd ∧ ∀ xa σ' H', Sta X.K H0 H' σ' (env.set j (some (.x C))) own → W (suiteCx X xa) (({ D with nx := fun σ H => W X D rest σ H } : Ends).forget j) (b₀ :: suite) σ' H')
    (hdf : (fn == ("__debug__" : Str)) = false := by decide) (hdb : (y == ("__debug__" : Str)) = false := by decide)
    (he : starEach (e :: es) X.env = (false, eval e X.env) :: starEach es X.env := by rfl) (hpl : (backTo cpos (starEach es X.env)).any (·.1) = false := by rfl)
    (hsw : swapsWith (.Call (.Name fn p) (e :: es) [] cpos) (some (.Name z zp)) apos.line X.env = pure false := by rfl) (hfz : X.fn z = true ∨ X.env.scope.names.lookup z = some .local := by first | exact .inl rfl | exact .inr rfl | assumption) :
    W X D (.Try [.Assign [.Name z zp] (.Call (.Name fn p) (e :: es) [] cpos) apos] [.ExceptHandler (some (.Name y np)) (some n) (b₀ :: suite) hpos] [] [] pos :: rest) σ H := by
  refine W.cons (ps_tryCall (ts := fun D σ H => ∀ xa, W (suiteCx X xa) D (b₀ :: suite) σ H) F hr B hN hi hz hgf hmf hkf hb ha.h hj hk hg (fun xa pins s σ H D I h => (h xa).h pins s I) hdf hdb he hpl hsw hfz) ⟨H0, Z, fun vs H1 s1 r1 => ?_⟩
  have Z1 := Z.step s1
  refine ⟨r1.weak fun _ _ => trivial, ?_⟩
  cases r with
  | ok d => exact fun v H2 s2 r2 => kO d rfl _ H2 ((Z1.step s2).setF i (H1 := H1) (r2.weak fun o z => by
        cases o with
        | none => exact z.elim
        | some b => exact ⟨Z1.notown z, same_none Z1.same z⟩))
  | er C =>
    intro H2 s2
    obtain ⟨Cd, h1, h2, h3⟩ := kE C rfl
    refine ⟨C, Cd, rfl, h1, h2, fun xa hx xb => h3 xb _ _ ?_⟩
    have sx : Same H2 (upd H2 xa (excO xa C)) := same_new hx _
    exact ((Z1.step s2).step sx).setS j (.ref xa) ⟨xa, rfl, upd_same⟩
end
/-! ### slices of texts -/
/-! ### text * n, join -/
end L2

set_option Elab.async false
set_option linter.all false
set_option maxRecDepth 100000
set_option maxHeartbeats 4000000
/-! Values as data, part 9: y = [..], methods of texts -/
namespace L2
open PySem PySem.Spec PyProof.Rows
section
variable {X : Cx} {D : Ends} {rest : List Stmt} {σ : St} {H H0 : Hp} {env : Nv} {own : Own} {scope : Scope} {y x : Str} {yp px spos : Pos} {iter elt : Expr} {ifs : List Expr} {pos : Pos} {α : Type} {enc : α → PyData} {xs : List α} {f : α → PyData} {g : α → Bool} {i : Nat}
theorem w_setComp (hN0 : X.N.Nodup) (hi0 : X.N[i]? = some x) (hx0 : Loc X.env.scope x) (Z : Sta X.K H0 H σ env own) (N : List Str) (st : Stmt) (N' : List Str) (caps : List (Option Nat)) (hN : X.N = N) (hS : X.env.scope = defScope st) (hc : X.calm = true) (hi : EvI .any X env own (.Name y yp) iter (xs.map enc)) (hg : ∀ C fp s H, PG (blockCx X N' scope C fp s H) (.Name y yp) (gName 0))
    (ht : ∀ C fp s H, ∀ a, a ∈ xs → EvIf (blockCx X N' scope C fp s H) ((capE caps env).set 0 (some (.d (enc a)))) own ifs (g a)) (he : ∀ C fp s H, ∀ a, a ∈ xs → g a = true → Ev .imm (blockCx X N' scope C fp s H) ((capE caps env).set 0 (some (.d (enc a)))) own elt (f a))
    [hI : ∀ a, Imm (enc a)] (k : ∀ σ' H', Sta X.K H0 H' σ' (env.set i (some (.f (.list ((xs.filter g).map f))))) own → W X D rest σ' H') (hlen : xs.length ≤ 100000) (h0 : ∃ r, caps = none :: r := by exact ⟨_, rfl⟩) (ok : compOk N (defScope st) N' caps scope = true := by decide +kernel)
    (hsw : swapsWith (.ListComp elt [⟨.Name y yp, iter, ifs, 0⟩] scope pos) (some (.Name x px)) spos.line X.env = pure true := by rfl) (hs : ∀ x, foldedSetIterable iter X.env x = pure x := by intro _; rfl)
    (hf : X.fn x = true ∨ X.env.scope.names.lookup x = some .local := by first | exact .inl rfl | exact .inr rfl | assumption) :
    W X D (.Assign [.Name x px] (.ListComp elt [⟨.Name y yp, iter, ifs, 0⟩] scope pos) spos :: rest) σ H := by
  refine W.cons (ps_setCompS (te := teOf X.K caps env own enc xs g f) (tc := tcOf X.K caps env own enc xs g) hN0 hi0 hx0 N st N' caps hN hS hc hi.h hg
    (fun C fp s H pins s' σ' H' Q I ⟨a, ha, z⟩ => (ht C fp s H a ha).h pins s' σ' H' Q I z) (fun C fp s H pins s' σ' H' Q I ⟨a, ha, hga, z⟩ => (he C fp s H a ha hga).h pins s' σ' H' Q I z) ok hsw hs hf) ?_
  exact ⟨H0, Z, fun J H1 s1 S => comp_core (N' := N') hlen h0 Z s1 S fun D H' sm r => k _ H' ((Z.step sm).setF i (H1 := H) (r.weak fun o z => by
    cases o with
    | none => exact z.elim
    | some b => exact ⟨Z.notown z, same_none Z.same z⟩))⟩
end
/-! ### methods of built-in values -/
theorem strs_are : ∀ {ys : List Str} {us : List Value}, Vals (ys.map V.str) us → StrsAre us ys
  | [], _, .nil => .nil
  | y :: r, _, .cons h t => by
    obtain ⟨k, e⟩ := (show ∃ t, _ = Value.str y t from h)
    subst e
    exact .cons y k (strs_are t)
end L2
namespace L2
open PySem PySem.Spec PyProof.Rows
/-! ### the law's def -/
noncomputable def spLaw (K : PySem.W.Frag) : Sp := fun vs H Q _ => ∃ (p : Addr) (ns : List Int), vs = [.ref p] ∧ SqL K H p (ns.map V.int) ∧ ns.length ≤ 63 ∧ ∀ H', Q (.bl true) H'
theorem law_ok {P : Program} {w : World} {K : PySem.W.Frag} {mg : Str → Option Value} {base : Heap} {k : Nat} {f : Addr} {fd : FuncData} {x : Str} (h : ∀ ns : List Int, ns.length ≤ 63 → CD P w K mg base k f fd [x] [.list (List.map PyData.int ns)] (.ok (.bool true))) : FnOk P w K mg base (CXE P w) k f fd [x] (spLaw K) := by
  refine ⟨fun vs H Q E ⟨p, ns, e, _⟩ => by rw [e]; rfl, fun A outer s H args us vs Q E hr he hb hv hs => ?_⟩
  obtain ⟨p, ns, rfl, hS, hl, q⟩ := hs
  refine (h ns hl).run A outer s H args us [.ref p] Q E hr he hb hv ⟨.cons (.lst ?_ (RepAll.ints ns)) .nil, fun v H' _ r => by rw [r.toBool]; exact q H'⟩
  rcases hS with (hS | hS) | hS
  · exact .inl ⟨hS, trivial⟩
  · exact .inr ⟨.inl hS, trivial⟩
  · exact .inr ⟨.inr hS, trivial⟩
end L2

set_option Elab.async false
set_option linter.all false
set_option maxRecDepth 100000
set_option maxHeartbeats 4000000
/-! The die in plain Lean -/
namespace Die
open PySem L2
noncomputable abbrev lieD (t : List Int) : PyData := .tuple (List.map PyData.int t)
noncomputable def pr (n : Int) : Int := if 7 - n < n then 7 - n else n
noncomputable def prs (t : List Int) : List Int := t.map pr
noncomputable def oddHigh (t : List Int) : Bool := decide (((t.filter fun n => decide (3 < n)).length : Int) % 2 = 1)
noncomputable def isLie (t : List Int) : Bool := if sortI (prs t) = [1, 2, 3] then decide ((!decide (((prs t).getD 1 0 - (prs t).getD 0 0) % 3 = 1)) = oddHigh t) else false
noncomputable def small (t : List Int) : Prop := ∀ n ∈ t, -1000 ≤ n ∧ n ≤ 1000
theorem three {t : List Int} (h : t.length = 3) : ∃ x y z, t = [x, y, z] := by
  match t, h with
  | [x, y, z], _ => exact ⟨x, y, z, rfl⟩
/-! ### the law's own reading -/
noncomputable def lp (n : Int) : Int := ([0, 1, 2, 3, 3, 2, 1] : List Int).getD n.toNat 0
noncomputable def inSix (t : List Int) : Prop := ∀ n ∈ t, 1 ≤ n ∧ n ≤ 6
noncomputable def above (ns : List Int) (k : Nat) : List Int := (ns.take k).filter fun o => decide (ns.getD k 0 < o)
noncomputable def inv (ns : List Int) : Nat → Int
  | 0 => 0
  | k + 1 => inv ns k + ((above ns k).length : Int)
noncomputable def lodd (ns : List Int) : Int := inv ns ns.length % 2
noncomputable def outSix (t : List Int) : List Int := t.filter fun n => !(decide (1 ≤ n) && decide (n ≤ 6))
noncomputable def lawIsLie (t : List Int) : Bool := if 0 < ((outSix t).length : Int) then false else if sortI (t.map lp) = [1, 2, 3] then decide ((((t.filter fun n => decide (3 < n)).length : Int) + lodd (t.map lp)) % 2 = 0) else false
theorem inSix_of {t : List Int} (h : ¬ 0 < ((outSix t).length : Int)) : inSix t := fun n hn => by
  have e : outSix t = [] := List.length_eq_zero_iff.mp (by lia)
  have := List.filter_eq_nil_iff.mp e n hn
  simp at this
  lia
theorem pr_range {n : Int} (h : pr n = 1 ∨ pr n = 2 ∨ pr n = 3) : 1 ≤ n ∧ n ≤ 6 := by
  unfold pr at h
  split at h <;> lia
theorem fin6 {n : Int} (h : 1 ≤ n ∧ n ≤ 6) : ∃ i : _root_.Fin 6, n = (i.val : Int) + 1 := ⟨⟨(n - 1).toNat, by lia⟩, by show n = (((n - 1).toNat : Nat) : Int) + 1; lia⟩
theorem lie_six {t : List Int} (h : isLie t = true) : inSix t := fun n hn => by
  unfold isLie at h
  split at h
  · rename_i hs
    have m : pr n ∈ sortI (prs t) := (sortI_perm (prs t)).mem_iff.mpr (List.mem_map.mpr ⟨n, hn, rfl⟩)
    rw [hs] at m
    simp at m
    exact pr_range m
  · cases h
/-! ### the list of the right lies -/
noncomputable def allE (p : List Int → Bool) (x y : Int) (k : Nat) : List (List Int) := ((List.range k).map fun e : Nat => [x, y, 1 + (e : Int)]).filter p
noncomputable def allN (p : List Int → Bool) (x : Int) (j : Nat) : List (List Int) := (List.range j).flatMap fun n : Nat => allE p x (1 + (n : Int)) 6
noncomputable def allT (p : List Int → Bool) (i : Nat) : List (List Int) := (List.range i).flatMap fun t : Nat => allN p (1 + (t : Int)) 6
theorem allN_succ (p : List Int → Bool) (x : Int) (j : Nat) : allN p x (j + 1) = allN p x j ++ allE p x (1 + (j : Int)) 6 := by
  unfold allN
  rw [List.range_succ, List.flatMap_append]
  simp
theorem allT_succ (p : List Int → Bool) (i : Nat) : allT p (i + 1) = allT p i ++ allN p (1 + (i : Int)) 6 := by
  unfold allT
  rw [List.range_succ, List.flatMap_append]
  simp
theorem len_allE (p : List Int → Bool) (x y : Int) (k : Nat) : (allE p x y k).length ≤ k := by
  unfold allE
  exact Nat.le_trans (List.length_filter_le _ _) (by simp)
theorem len_allN (p : List Int → Bool) (x : Int) : ∀ j, (allN p x j).length ≤ 6 * j
  | 0 => Nat.le_refl _
  | j + 1 => by rw [allN_succ, List.length_append]; have := len_allN p x j; have := len_allE p x (1 + (j : Int)) 6; lia
theorem len_allT (p : List Int → Bool) : ∀ i, (allT p i).length ≤ 36 * i
  | 0 => Nat.le_refl _
  | i + 1 => by rw [allT_succ, List.length_append]; have := len_allT p i; have := len_allN p (1 + (i : Int)) 6; lia
/-- the right lies -/
noncomputable def lies : List (List Int) := allT lawIsLie 6
theorem lies_len : lies.length = 24 := by decide +kernel
theorem lies_ok : ∀ t ∈ lies, t.length = 3 ∧ inSix t ∧ isLie t = true := by
  have : lies.all (fun t => decide (t.length = 3) && t.all (fun n => decide (1 ≤ n) && decide (n ≤ 6)) && isLie t) = true := by decide +kernel
  intro t ht
  have q := List.all_eq_true.mp this t ht
  simp only [Bool.and_eq_true, decide_eq_true_eq, List.all_eq_true] at q
  exact ⟨q.1.1, fun n hn => q.1.2 n hn, q.2⟩
theorem small_six {t : List Int} (h : inSix t) : small t := fun n hn => by have := h n hn; lia
/-! ### rolls -/
/-- a roll by its sign: e 101, n 110, s 115, w 119 -/
noncomputable def roll1 (c : Nat) (t : List Int) : List Int := match t with
  | [x, y, z] => if c = 110 then [7 - y, x, z] else if c = 101 then [7 - z, y, x] else if c = 115 then [y, 7 - x, z] else [z, y, 7 - x]
  | t => t
noncomputable def isRoll (c : Nat) : Bool := c == 110 || c == 101 || c == 115 || c == 119
noncomputable def rollAll (l : List Nat) (t : List Int) : List Int := l.foldl (fun t c => roll1 c t) t
theorem roll1_len {c : Nat} {t : List Int} (h : t.length = 3) : (roll1 c t).length = 3 := by
  obtain ⟨x, y, z, rfl⟩ := three h
  unfold roll1
  dsimp only
  split
  · rfl
  · split
    · rfl
    · split <;> rfl
theorem cubeR : ∀ i j k : _root_.Fin 6, isLie [(i.val : Int) + 1, (j.val : Int) + 1, (k.val : Int) + 1] = true → ∀ c ∈ [110, 101, 115, 119], isLie (roll1 c [(i.val : Int) + 1, (j.val : Int) + 1, (k.val : Int) + 1]) = true := by decide +kernel
theorem roll1_norm (c : Nat) : ∃ c' ∈ [110, 101, 115, 119], ∀ t, roll1 c t = roll1 c' t := by
  by_cases h1 : c = 110
  · exact ⟨110, by simp, fun t => by rw [h1]⟩
  · by_cases h2 : c = 101
    · exact ⟨101, by simp, fun t => by rw [h2]⟩
    · by_cases h3 : c = 115
      · exact ⟨115, by simp, fun t => by rw [h3]⟩
      · refine ⟨119, by simp, fun t => ?_⟩
        unfold roll1
        split
        · rw [if_neg h1, if_neg h2, if_neg h3, if_neg (by decide), if_neg (by decide), if_neg (by decide)]
        · rfl
theorem roll1_lie {c : Nat} {t : List Int} (h3 : t.length = 3) (h : isLie t = true) : isLie (roll1 c t) = true := by
  obtain ⟨c', hc, e⟩ := roll1_norm c
  rw [e]
  have h6 := lie_six h
  obtain ⟨x, y, z, rfl⟩ := three h3
  obtain ⟨i, rfl⟩ := fin6 (h6 x (by simp))
  obtain ⟨j, rfl⟩ := fin6 (h6 y (by simp))
  obtain ⟨k, rfl⟩ := fin6 (h6 z (by simp))
  exact cubeR i j k h c' hc
end Die
namespace Die
open PySem L2
theorem show_txt {l : List Nat} (h : ∀ c ∈ l, c < 1114112) (hl : l.length ≤ 1000) (k : Nat) (hk : k ≤ 1000) : (PyData.str (tx l)).showable = true ∧ (PyData.str (tx l)).hasDict = false ∧ (PyData.str (tx l)).depth ≤ 60 ∧ (PyData.str (tx l)).shown.length + k ≤ 100000 := by
  refine ⟨rfl, rfl, Nat.zero_le _, ?_⟩
  have e : (reprText (tx l)).length ≤ 10 * (tx l).length + 2 := PySem.StrLaws.reprText_len (tx l) (fun c hc => by
    have : c ∈ l := by simpa using hc
    have := h c this
    lia)
  rw [tx_len l] at e
  show (reprText (tx l)).length + k ≤ 100000
  lia
end Die
namespace Die
open PySem L2
theorem lie_small {t : List Int} (h : isLie t = true) : small t := small_six (lie_six h)
/-! ### relabelled dice -/
/-! ### the times of a row of rolls -/
theorem mem_lies {t : List Int} (h3 : t.length = 3) (h : isLie t = true) : t ∈ lies := by
  have h6 := lie_six h
  obtain ⟨x, y, z, rfl⟩ := three h3
  obtain ⟨i, rfl⟩ := fin6 (h6 x (by simp))
  obtain ⟨j, rfl⟩ := fin6 (h6 y (by simp))
  obtain ⟨k, rfl⟩ := fin6 (h6 z (by simp))
  have key : ∀ i j k : _root_.Fin 6, isLie [(i.val : Int) + 1, (j.val : Int) + 1, (k.val : Int) + 1] = true → [(i.val : Int) + 1, (j.val : Int) + 1, (k.val : Int) + 1] ∈ lies := by decide +kernel
  exact key i j k h
end Die
namespace Die
open PySem L2
/-! ### what the laws draw -/
noncomputable def lmix (c k : Int) : Int :=
  (((((c * 69621 + 7001 * k + 3) % 2147483629) * ((c * 69621 + 7001 * k + 3) % 2147483629) + 39373 * ((c * 69621 + 7001 * k + 3) % 2147483629) + k) % 2147483647) * ((((c * 69621 + 7001 * k + 3) % 2147483629) * ((c * 69621 + 7001 * k + 3) % 2147483629) + 39373 * ((c * 69621 + 7001 * k + 3) % 2147483629) + k) % 2147483647) + 16807 * ((((c * 69621 + 7001 * k + 3) % 2147483629) * ((c * 69621 + 7001 * k + 3) % 2147483629) + 39373 * ((c * 69621 + 7001 * k + 3) % 2147483629) + k) % 2147483647) + 7 * k) % 2147483587
theorem roll_ascii {c : Nat} (h : isRoll c = true) : c < 128 := by
  unfold isRoll at h
  simp at h
  lia
/-- which of the five it is, and that it is a ValueError -/
noncomputable def marksOf (w : Int) : List Bool := ((List.range 5).map fun k : Nat => decide ((k : Int) = w)) ++ [true]
end Die
namespace Die
theorem range_at {n j y : Nat} (h : (List.range n)[j]? = some y) : y = j ∧ j < n := by
  have hj : j < n := by simpa using (List.getElem?_eq_some_iff.mp h).1
  rw [List.getElem?_range hj] at h
  cases h
  exact ⟨rfl, hj⟩
end Die

set_option Elab.async false
set_option linter.all false
set_option maxRecDepth 100000
set_option maxHeartbeats 4000000
/-! sorted, of fewer than 64 things whose comparisons answer by keys (in one state of the heap) -/
namespace L2
open PySem PyProof.Rows
structure Ans (prog : Program) (w : World) (A : Around) (E : Value → Shared → Prop) (s : Shared) (q : PyProof.Rows.KeyKind) (kd : SortKind) (src : Array Keyed) : Prop where
  dom : KeysOf q src
  ask : ∀ (u v : Keyed) (c d : q.α), q.keyOf u.1 = some c → q.keyOf v.1 = some d → ∀ {R : Option Bool → SortSt → Prop} {z : SortSt}, kindOf z = kd → R (some (q.blt c d)) z → wpS (model prog w) A E s (lt' u v) R z
structure Mid (kd : SortKind) (src : Array Keyed) (z : SortSt) : Prop where
  all : (arrOf z).Perm src
  knd : kindOf z = kd
  ok : failedOf z = none
  no : pendingOf z = #[]
section
variable {prog : Program} {w : World} {A : Around} {E : Value → Shared → Prop} {s : Shared} {q : PyProof.Rows.KeyKind} {kd : SortKind} {src xs : Array Keyed} {z : SortSt}
theorem Mid.put (M : Mid kd src z) {ys : Array Keyed} (p : ys.Perm (arrOf z)) : Mid kd src (setArr z ys) := ⟨p.trans M.all, M.knd, M.ok, M.no⟩
theorem Mid.len (M : Mid kd src z) : (arrOf z).size = src.size := M.all.size_eq
theorem Ans.two (G : Ans prog w A E s q kd src) (M : Mid kd src z) {i j : Nat} (hi : i < src.size) (hj : j < src.size) {R : Option Bool → SortSt → Prop} (h : R (some (q.blt (KK q (arrOf z) i) (KK q (arrOf z) j))) z) : wpS (model prog w) A E s (ltAt' i j) R z := by
  have key : ∀ n, n < src.size → ∃ u c, (arrOf z)[n]? = some u ∧ q.keyOf u.1 = some c ∧ KK q (arrOf z) n = c := fun n hn => by
    have hz : n < (arrOf z).size := by rw [M.len]; exact hn
    have e := Array.getElem?_eq_getElem hz
    obtain ⟨c, hc⟩ := G.dom ((arrOf z)[n]) ((Array.perm_iff_toList_perm.mp M.all).mem_iff.mp (Array.getElem_mem_toList hz))
    exact ⟨_, c, e, hc, by unfold KK; rw [e]; simp only [hc]; rfl⟩
  obtain ⟨u, c, u1, u2, u3⟩ := key i hi
  obtain ⟨v, d, v1, v2, v3⟩ := key j hj
  rw [u3, v3] at h
  rw [ltAt'_eq]
  refine wpS_bind (wpS_get ?_)
  show wpS _ _ _ _ (elem' (arrOf z) i >>= fun a => elem' (arrOf z) j >>= fun b => lt' a b) R z
  rw [elem'_eq, u1, elem'_eq, v1]
  exact wpS_bind (wpS_pure (wpS_bind (wpS_pure (G.ask u v c d u2 v2 M.knd h))))
theorem up_one (xs : Array Keyed) : SortedToK q xs 1 := fun i j h1 h2 => by
  have e : i = j := by lia
  subst e
  exact KeyOrd.kle_refl _
theorem up_snoc {n : Nat} (h : SortedToK q xs n) (hn : 0 < n) (e : q.kle (KK q xs (n - 1)) (KK q xs n)) : SortedToK q xs (n + 1) := fun i j h1 h2 => by
  rcases Nat.lt_or_ge j n with hj | hj
  · exact h i j h1 hj
  · have ej : j = n := by lia
    subst ej
    rcases Nat.lt_or_ge i j with hi | hi
    · exact KeyOrd.kle_trans (h i (j - 1) (by lia) (by lia)) e
    · have ei : i = j := by lia
      subst ei
      exact KeyOrd.kle_refl _
theorem dn_snoc {n : Nat} (h : NonIncK q xs n) (hn : 0 < n) (e : q.kle (KK q xs n) (KK q xs (n - 1))) : NonIncK q xs (n + 1) := fun i j h1 h2 => by
  rcases Nat.lt_or_ge j n with hj | hj
  · exact h i j h1 hj
  · have ej : j = n := by lia
    subst ej
    rcases Nat.lt_or_ge i j with hi | hi
    · exact KeyOrd.kle_trans e (h i (j - 1) (by lia) (by lia))
    · have ei : i = j := by lia
      subst ei
      exact KeyOrd.kle_refl _
theorem dn_one (xs : Array Keyed) : NonIncK q xs 1 := fun i j h1 h2 => by
  have e : i = j := by lia
  subst e
  exact KeyOrd.kle_refl _
/-- the run that goes up, from the first n0 on -/
theorem run_up (G : Ans prog w A E s q kd src) (M : Mid kd src z) {n0 most : Nat} (h1 : 0 < n0) (h2 : n0 ≤ most) (h3 : most ≤ src.size) (hs : SortedToK q (arrOf z) n0) {R : AscSt → SortSt → Prop}
    (k : ∀ n, n0 ≤ n → n ≤ most → SortedToK q (arrOf z) n → (n < most → q.klt (KK q (arrOf z) n) (KK q (arrOf z) (n - 1))) → R (none, n) z) : wpS (model prog w) A E s (ascLoop n0 most) R z := by
  unfold ascLoop
  refine wpS_forRange (fun n c z' => z' = z ∧ c = (none, n) ∧ SortedToK q (arrOf z) n) (fun n c z' hn1 hn2 hI => ?_) (fun c z' hI => ?_) ⟨rfl, rfl, hs⟩
  · obtain ⟨rfl, rfl, hn⟩ := hI
    refine wpS_bind (G.two M (show n < src.size by lia) (show n - 1 < src.size by lia) ?_)
    by_cases hb : q.blt (KK q (arrOf z') n) (KK q (arrOf z') (n - 1)) = true
    · rw [hb]
      exact wpS_pure (k n hn1 (by lia) hn fun _ => hb)
    · have hb' : q.blt (KK q (arrOf z') n) (KK q (arrOf z') (n - 1)) = false := by simpa using hb
      rw [hb']
      exact wpS_pure ⟨rfl, rfl, up_snoc hn (by lia) hb'⟩
  · obtain ⟨rfl, rfl, hn⟩ := hI
    have e : max n0 most = most := by lia
    rw [e] at hn ⊢
    exact k most h2 (Nat.le_refl _) hn fun h => absurd h (Nat.lt_irrefl _)
/-- a run that goes down, turned about; then it may go on -/
theorem run_turn (G : Ans prog w A E s q kd src) (M : Mid kd src z) {n most : Nat} (h1 : 0 < n) (h2 : n ≤ most) (h3 : most ≤ src.size) (hs : NonIncK q (arrOf z) n) {R : Option Nat → SortSt → Prop}
    (k : ∀ m z', Mid kd src z' → 0 < m → m ≤ most → SortedToK q (arrOf z') m → R (some m) z') : wpS (model prog w) A E s (tail3 n most) R z := by
  unfold tail3
  have hz : n ≤ (arrOf z).size := by rw [M.len]; lia
  have M2 : Mid kd src (setArr z (mirror (arrOf z) 0 n ((n - 0) / 2))) := M.put (mirror_perm _ _ _ _)
  have up : SortedToK q (arrOf (setArr z (mirror (arrOf z) 0 n ((n - 0) / 2)))) n := fun i j hij hj => by
    show q.kle (KK q (mirror (arrOf z) 0 n ((n - 0) / 2)) i) (KK q (mirror (arrOf z) 0 n ((n - 0) / 2)) j)
    rw [KK_mirror hz i, if_pos ⟨Nat.zero_le _, by lia⟩, KK_mirror hz j, if_pos ⟨Nat.zero_le _, hj⟩]
    exact hs _ _ (by lia) (by lia)
  refine wpS_bind (wpS_reverse (wpS_bind (run_up G M2 h1 h2 h3 up fun m hm1 hm2 hm _ => ?_)))
  exact wpS_pure (k m _ M2 (by lia) hm2 hm)
/-- the last c + 1 of the first n are alike -/
noncomputable def Alike (q : PyProof.Rows.KeyKind) (xs : Array Keyed) (n c : Nat) : Prop := c + 1 ≤ n ∧ ∀ i, n - (c + 1) ≤ i → i < n → KK q xs i = KK q xs (n - 1)
theorem alike0 {n : Nat} (h : 0 < n) : Alike q xs n 0 := ⟨h, fun i h1 h2 => by
  have e : i = n - 1 := by lia
  rw [e]⟩
/-- the run that goes down -/
theorem run_down (G : Ans prog w A E s q kd src) (M : Mid kd src z) {n most : Nat} (h1 : 0 < n) (h2 : n ≤ most) (h3 : most ≤ src.size) (hs : NonIncK q (arrOf z) n) {R : DescSt → SortSt → Prop}
    (k : ∀ m c z', Mid kd src z' → n ≤ m → m ≤ most → NonIncK q (arrOf z') m → Alike q (arrOf z') m c → R (none, m, c) z') : wpS (model prog w) A E s (descLoop n most) R z := by
  unfold descLoop
  refine wpS_forRange (fun x c z' => ∃ e, c = (none, x, e) ∧ Mid kd src z' ∧ NonIncK q (arrOf z') x ∧ Alike q (arrOf z') x e) (fun x c z' hx1 hx2 hI => ?_) (fun c z' hI => ?_) ⟨0, rfl, M, hs, alike0 h1⟩
  · obtain ⟨e, rfl, M', hd, ha⟩ := hI
    have hz : x ≤ (arrOf z').size := by rw [M'.len]; lia
    refine wpS_bind (G.two M' (show x < src.size by lia) (show x - 1 < src.size by lia) ?_)
    by_cases hb : q.blt (KK q (arrOf z') x) (KK q (arrOf z') (x - 1)) = true
    · rw [hb]
      have less : q.kle (KK q (arrOf z') x) (KK q (arrOf z') (x - 1)) := KeyOrd.kle_of_klt hb
      dsimp only
      rw [if_pos rfl]
      by_cases he : e > 0
      · rw [if_pos he]
        have same := KK_mirror_equal (κ := q) hz ha.2
        refine wpS_bind (wpS_reverse (wpS_pure ⟨0, rfl, M'.put (mirror_perm _ _ _ _), ?_, alike0 (Nat.succ_pos _)⟩))
        intro i j hij hj
        show q.kle (KK q (mirror (arrOf z') (x - (e + 1)) x ((x - (x - (e + 1))) / 2)) j) (KK q (mirror (arrOf z') (x - (e + 1)) x ((x - (x - (e + 1))) / 2)) i)
        rw [same i, same j]
        exact dn_snoc hd (by lia) less i j hij hj
      · rw [if_neg he]
        exact wpS_pure ⟨0, rfl, M', dn_snoc hd (by lia) less, alike0 (Nat.succ_pos _)⟩
    · have hb' : q.blt (KK q (arrOf z') x) (KK q (arrOf z') (x - 1)) = false := by simpa using hb
      rw [hb']
      dsimp only
      rw [if_neg Bool.false_ne_true]
      refine wpS_bind (G.two M' (show x - 1 < src.size by lia) (show x < src.size by lia) ?_)
      by_cases hc : q.blt (KK q (arrOf z') (x - 1)) (KK q (arrOf z') x) = true
      · rw [hc]
        exact wpS_pure (k x e z' M' hx1 (by lia) hd ha)
      · have hc' : q.blt (KK q (arrOf z') (x - 1)) (KK q (arrOf z') x) = false := by simpa using hc
        rw [hc']
        have eqx : KK q (arrOf z') x = KK q (arrOf z') (x - 1) := KeyOrd.kle_antisymm hc' hb'
        refine wpS_pure ⟨e + 1, rfl, M', dn_snoc hd (by lia) (by rw [eqx]; exact KeyOrd.kle_refl _), ?_, fun i hi1 hi2 => ?_⟩
        · have := ha.1; lia
        · have e1 : x + 1 - 1 = x := by lia
          rw [e1]
          rcases Nat.lt_or_ge i x with hi | hi
          · rw [ha.2 i (by lia) hi, eqx]
          · have ei : i = x := by lia
            rw [ei]
  · obtain ⟨e, rfl, M', hd, ha⟩ := hI
    have em : max n most = most := by lia
    rw [em] at hd ha ⊢
    exact k most e z' M' h2 (Nat.le_refl _) hd ha
theorem run_desc (G : Ans prog w A E s q kd src) (M : Mid kd src z) {n most : Nat} (h2 : n + 1 ≤ most) (h3 : most ≤ src.size) (hs : NonIncK q (arrOf z) (n + 1)) {R : Option Nat → SortSt → Prop}
    (k : ∀ m z', Mid kd src z' → 0 < m → m ≤ most → SortedToK q (arrOf z') m → R (some m) z') : wpS (model prog w) A E s (descPart n most) R z := by
  unfold descPart
  refine wpS_bind (wpS_lift (wpAny_rule ⟨rfl, ?_⟩))
  refine wpS_bind (run_down G M (Nat.succ_pos _) h2 h3 hs fun m c z' M' hm1 hm2 hd ha => ?_)
  have hz : m ≤ (arrOf z').size := by rw [M'.len]; lia
  dsimp only
  by_cases hc : c > 0
  · rw [if_pos hc]
    have same := KK_mirror_equal (κ := q) hz ha.2
    refine wpS_bind (wpS_reverse (run_turn G (M'.put (mirror_perm _ _ _ _)) (by lia) hm2 h3 (fun i j hij hj => ?_) k))
    show q.kle (KK q (mirror (arrOf z') (m - (c + 1)) m ((m - (m - (c + 1))) / 2)) j) (KK q (mirror (arrOf z') (m - (c + 1)) m ((m - (m - (c + 1))) / 2)) i)
    rw [same i, same j]
    exact hd i j hij hj
  · rw [if_neg hc]
    exact run_turn G M' (by lia) hm2 h3 hd k
/-- the first run, made to go up -/
theorem run_first (G : Ans prog w A E s q kd src) (M : Mid kd src z) {most : Nat} (h1 : 0 < most) (h3 : most ≤ src.size) {R : Option Nat → SortSt → Prop}
    (k : ∀ m z', Mid kd src z' → 0 < m → m ≤ most → SortedToK q (arrOf z') m → R (some m) z') : wpS (model prog w) A E s (countRun' 0 most) R z := by
  rw [countRun0_eq]
  refine wpS_bind (run_up G M Nat.zero_lt_one h1 h3 (up_one _) fun n hn1 hn2 hn hlt => ?_)
  dsimp only
  by_cases hall : n = most
  · rw [if_pos (by rw [hall]; exact beq_self_eq_true _)]
    exact wpS_pure (k n z M (by lia) hn2 hn)
  · rw [if_neg (by intro h; exact hall (eq_of_beq h))]
    have hk := hlt (by lia)
    by_cases hg : n > 1
    · rw [if_pos hg]
      refine wpS_bind (G.two M (show 0 < src.size by lia) (show n - 1 < src.size by lia) ?_)
      by_cases hb : q.blt (KK q (arrOf z) 0) (KK q (arrOf z) (n - 1)) = true
      · rw [hb]
        exact wpS_pure (k n z M (by lia) hn2 hn)
      · have hb' : q.blt (KK q (arrOf z) 0) (KK q (arrOf z) (n - 1)) = false := by simpa using hb
        rw [hb']
        have one : ∀ i, 0 ≤ i → i < n → KK q (arrOf z) i = KK q (arrOf z) (n - 1) := fun i _ hi =>
          KeyOrd.kle_antisymm (hn i (n - 1) (by lia) (by lia)) (KeyOrd.kle_trans hb' (hn 0 i (Nat.zero_le _) hi))
        have hz : n ≤ (arrOf z).size := by rw [M.len]; lia
        have same := KK_mirror_equal (κ := q) hz one
        refine wpS_bind (wpS_reverse (run_desc G (M.put (mirror_perm _ _ _ _)) (by lia) h3 (fun i j hij hj => ?_) k))
        show q.kle (KK q (mirror (arrOf z) 0 n ((n - 0) / 2)) j) (KK q (mirror (arrOf z) 0 n ((n - 0) / 2)) i)
        rw [same i, same j]
        have dn : NonIncK q (arrOf z) n := fun a b hab hb2 => by rw [one a (Nat.zero_le _) (by lia), one b (Nat.zero_le _) hb2]; exact KeyOrd.kle_refl _
        exact dn_snoc dn (by lia) (KeyOrd.kle_of_klt hk) i j hij hj
    · rw [if_neg hg]
      have e1 : n = 1 := by lia
      subst e1
      exact run_desc G M (by lia) h3 (dn_snoc (dn_one _) Nat.zero_lt_one (KeyOrd.kle_of_klt hk)) k
/-- where the thing at k belongs among the first k -/
noncomputable def Slit (q : PyProof.Rows.KeyKind) (xs : Array Keyed) (k l r : Nat) : Prop := l ≤ r ∧ r ≤ k ∧ (∀ i, i < l → q.kle (KK q xs i) (KK q xs k)) ∧ ∀ i, r ≤ i → i < k → q.klt (KK q xs k) (KK q xs i)
theorem slit_less {k l r : Nat} (h : Slit q xs k l r) (hs : SortedToK q xs k) (hlr : l < r) (hb : q.blt (KK q xs k) (KK q xs ((l + r) / 2)) = true) : Slit q xs k l ((l + r) / 2) :=
  ⟨by lia, by have := h.2.1; lia, h.2.2.1, fun i h1 h2 => KeyOrd.klt_of_klt_of_kle hb (hs _ _ h1 h2)⟩
theorem slit_more {k l r : Nat} (h : Slit q xs k l r) (hs : SortedToK q xs k) (hlr : l < r) (hb : q.blt (KK q xs k) (KK q xs ((l + r) / 2)) = false) : Slit q xs k ((l + r) / 2 + 1) r :=
  ⟨by lia, h.2.1, fun i h1 => KeyOrd.kle_trans (hs i ((l + r) / 2) (by lia) (by have := h.2.1; lia)) hb, h.2.2.2⟩
/-- it is put there -/
theorem slit_put {k l : Nat} (h : Slit q xs k l l) (hs : SortedToK q xs k) (hk : k < xs.size) : SortedToK q (bubble xs k (k - l)) (k + 1) := fun i j hij hj => by
  obtain ⟨_, hl, lo, hi⟩ := h
  have el : k - (k - l) = l := by lia
  have at1 := KK_bubble (κ := q) hk (Nat.sub_le k l)
  rw [at1 i, at1 j, el]
  rcases Nat.lt_trichotomy i l with h1 | h1 | h1
  · rw [if_neg (by lia), if_neg (by lia)]
    rcases Nat.lt_trichotomy j l with h2 | h2 | h2
    · rw [if_neg (by lia), if_neg (by lia)]
      exact hs i j hij (by lia)
    · rw [if_pos h2]
      exact lo i h1
    · rw [if_neg (by lia), if_pos ⟨by lia, by lia⟩]
      exact hs i (j - 1) (by lia) (by lia)
  · rw [if_pos h1]
    rcases Nat.lt_or_ge i j with h2 | h2
    · rw [if_neg (by lia), if_pos ⟨by lia, by lia⟩]
      exact KeyOrd.kle_of_klt (hi (j - 1) (by lia) (by lia))
    · rw [if_pos (by lia)]
      exact KeyOrd.kle_refl _
  · rw [if_neg (by lia), if_pos ⟨by lia, by lia⟩, if_neg (by lia), if_pos ⟨by lia, by lia⟩]
    exact hs (i - 1) (j - 1) (by lia) (by lia)
theorem run_insert (G : Ans prog w A E s q kd src) (M : Mid kd src z) {n m : Nat} (hm : 0 < m) (hmn : m ≤ n) (hn : n ≤ src.size) (hs : SortedToK q (arrOf z) m) {R : Bool → SortSt → Prop}
    (k : ∀ z', Mid kd src z' → SortedToK q (arrOf z') n → R true z') : wpS (model prog w) A E s (binarySort' 0 n m) R z := by
  rw [binarySort'_eq]
  have em : max m 1 = m := by lia
  rw [em]
  refine wpS_bind (wpS_mono (wpS_forRange (fun x c z' => c = (none, ()) ∧ Mid kd src z' ∧ SortedToK q (arrOf z') x) (Q := fun c z' => c = (none, ()) ∧ Mid kd src z' ∧ SortedToK q (arrOf z') n) (fun x c z' hx1 hx2 hI => ?_) (fun c z' hI => ?_) ⟨rfl, M, hs⟩) fun c z' hI => ?_)
  · obtain ⟨rfl, M', hx⟩ := hI
    have hxs : x < (arrOf z').size := by rw [M'.len]; lia
    refine wpS_bind (wpS_mono (wpS_forRange (fun y c z2 => z2 = z' ∧ ∃ l r, c = (none, l, r) ∧ Slit q (arrOf z') x l r ∧ r - l ≤ x - y) (Q := fun c z2 => z2 = z' ∧ ∃ l, c = (none, l, l) ∧ Slit q (arrOf z') x l l) (fun y c z2 hy1 hy2 hJ => ?_) (fun c z2 hJ => ?_)
      ⟨rfl, 0, x, rfl, ⟨Nat.zero_le _, Nat.le_refl _, fun i hi => absurd hi (Nat.not_lt_zero _), fun i h1 h2 => absurd h2 (by lia)⟩, Nat.le_refl _⟩) fun c z2 hJ => ?_)
    · obtain ⟨rfl, l, r, rfl, hS, hw⟩ := hJ
      dsimp only
      by_cases hlr : l ≥ r
      · rw [if_pos hlr]
        have e : l = r := by have := hS.1; lia
        subst e
        exact wpS_pure ⟨rfl, l, rfl, hS⟩
      · rw [if_neg hlr, Nat.zero_add, Nat.zero_add]
        have hr := hS.2.1
        refine wpS_bind (G.two M' (show x < src.size by lia) (show (l + r) / 2 < src.size by lia) ?_)
        by_cases hb : q.blt (KK q (arrOf z2) x) (KK q (arrOf z2) ((l + r) / 2)) = true
        · rw [hb]
          exact wpS_pure ⟨rfl, l, (l + r) / 2, rfl, slit_less hS hx (by lia) hb, by lia⟩
        · have hb' : q.blt (KK q (arrOf z2) x) (KK q (arrOf z2) ((l + r) / 2)) = false := by simpa using hb
          rw [hb']
          exact wpS_pure ⟨rfl, (l + r) / 2 + 1, r, rfl, slit_more hS hx (by lia) hb', by lia⟩
    · obtain ⟨rfl, l, r, rfl, hS, hw⟩ := hJ
      have e : l = r := by have := hS.1; lia
      subst e
      exact ⟨rfl, l, rfl, hS⟩
    · obtain ⟨rfl, l, rfl, hS⟩ := hJ
      dsimp only
      rw [Nat.zero_add, Nat.zero_add, moveDown'_eq]
      exact wpS_bind (wpS_modify (wpS_pure ⟨rfl, M'.put (bubble_perm _ _ _), slit_put hS hx hxs⟩))
  · obtain ⟨rfl, M', hx⟩ := hI
    have e : max m n = n := by lia
    rw [e] at hx
    exact ⟨rfl, M', hx⟩
  · obtain ⟨rfl, M', hx⟩ := hI
    exact wpS_pure (k z' M' hx)
/-- all of it -/
theorem run_all (G : Ans prog w A E s q kd src) (M : Mid kd src z) (h2 : 2 ≤ src.size) (h64 : src.size < 64) {R : Unit → SortSt → Prop}
    (k : ∀ z', (arrOf z').Perm src → failedOf z' = none → SortedToK q (arrOf z') src.size → R () z') : wpS (model prog w) A E s sortRuns' R z := by
  rw [sortRuns'_eq]
  refine wpS_bind (wpS_get ?_)
  have mr : minRun' src.size src.size 0 = src.size := by
    cases hc : src.size with
    | zero => lia
    | succ f => rw [minRun'_succ, if_pos (by lia)]
  dsimp only
  rw [M.len, mr]
  let fin : SortSt → Prop := fun z' => (arrOf z').Perm src ∧ failedOf z' = none ∧ pendingOf z' = #[(0, src.size, 0)] ∧ SortedToK q (arrOf z') src.size
  have put : ∀ z', Mid kd src z' → SortedToK q (arrOf z') src.size → fin (setPending z' ((pendingOf z').push (0, src.size, 0))) := fun z' M' h => ⟨M'.all, M'.ok, by show (pendingOf z').push _ = _; rw [M'.no]; rfl, h⟩
  refine wpS_bind (wpS_mono (wpS_forRange (fun x c z' => (x = 0 ∧ c = (none, 0) ∧ Mid kd src z') ∨ (0 < x ∧ c = (none, src.size) ∧ fin z')) (Q := fun c z' => c = (none, src.size) ∧ fin z') (fun x c z' hx1 hx2 hI => ?_) (fun c z' hI => ?_) (.inl ⟨rfl, rfl, M⟩)) fun c z' hI => ?_)
  · rcases hI with ⟨rfl, rfl, M'⟩ | ⟨hx, rfl, F⟩
    · dsimp only
      rw [if_neg (by lia), Nat.sub_zero]
      refine wpS_bind (run_first G M' (by lia) (Nat.le_refl _) fun m z2 M2 hm1 hm2 hm => ?_)
      dsimp only
      by_cases hlt : m < src.size
      · rw [if_pos hlt, Nat.min_self]
        refine wpS_bind (wpS_lift (wpAny_rule ⟨rfl, ?_⟩))
        refine wpS_bind (run_insert G M2 hm1 hm2 (Nat.le_refl _) hm fun z3 M3 hs3 => ?_)
        rw [if_neg (by decide)]
        refine wpS_bind (wpS_get ?_)
        rw [show (pendingOf z3).back? = none by rw [M3.no]; rfl]
        exact wpS_bind (wpS_modify (wpS_pure (.inr ⟨Nat.zero_lt_one, by rw [Nat.zero_add], put z3 M3 hs3⟩)))
      · rw [if_neg hlt]
        have e : m = src.size := by lia
        subst e
        refine wpS_bind (wpS_get ?_)
        rw [show (pendingOf z2).back? = none by rw [M2.no]; rfl]
        exact wpS_bind (wpS_modify (wpS_pure (.inr ⟨Nat.zero_lt_one, by rw [Nat.zero_add], put z2 M2 hm⟩)))
    · dsimp only
      rw [if_pos (Nat.le_refl _)]
      exact wpS_pure ⟨rfl, F⟩
  · rcases hI with ⟨hx, _, _⟩ | ⟨_, hc, F⟩
    · lia
    · exact ⟨hc, F⟩
  · obtain ⟨rfl, F⟩ := hI
    dsimp only
    refine wpS_bind (wpS_mono (wpS_forRange (fun _ c z2 => z2 = z' ∧ c = (none, ())) (Q := fun c z2 => z2 = z' ∧ c = (none, ())) (fun x c z2 _ _ hJ => ?_) (fun c z2 hJ => hJ) ⟨rfl, rfl⟩) fun c z2 hJ => ?_)
    · obtain ⟨rfl, rfl⟩ := hJ
      refine wpS_bind (wpS_get ?_)
      rw [if_pos (by rw [F.2.2.1]; exact Nat.le_refl 1)]
      exact wpS_pure ⟨rfl, rfl⟩
    · obtain ⟨rfl, rfl⟩ := hJ
      exact wpS_pure (k _ F.1 F.2.1 F.2.2.2)
end
end L2

set_option Elab.async false
set_option linter.all false
set_option maxRecDepth 100000
set_option maxHeartbeats 4000000
/-! sorted, of tuples -/
namespace L2
open PySem PyProof.Rows
section
variable {prog : Program} {w : World} {A : Around} {E : Value → Shared → Prop} {s : Shared}
/-- all but the thing at a stays -/
noncomputable def Kp (a : Addr) (h h' : Heap) : Prop := ∀ b o, b ≠ a → h.get? b = some o → h'.get? b = some o
theorem sort_tree {a : Addr} {vs : List Value} {n : Nat} {q : PyProof.Rows.KeyKind} {kd : SortKind} {R : PySem.Fin → Shared → Prop} (ho : s.heap.get? a = some (seqObj "list" vs.toArray n)) (h64 : vs.length < 64)
    (hk : 2 ≤ vs.length → ∀ (s' : Shared), Kp a s.heap s'.heap → ∀ {Q : SortKind → Shared → Prop}, Q kd s' → wpAny (model prog w) A (keyKind' vs.toArray) Q E s')
    (G : ∀ s' : Shared, Kp a s.heap s'.heap → Ans prog w A E s' q kd (pairsOf vs))
    (h : ∀ z : SortSt, (arrOf z).Perm (pairsOf vs) → SortedToK q (arrOf z) (pairsOf vs).size → R (.done (.ret .none)) { s with heap := sortedHeap s.heap a vs ((arrOf z).map (·.2)) }) :
    wpAny (model prog w) A (Builtin.«list.sort» ⟨[.ref a], []⟩) R E s := by
  rw [list_sort_plain]
  have la : a < s.heap.objs.size := Heap.lt_size ho
  refine wpAny_bind (listItems_at ho rfl (wpAny_bind (listUpdate_at ho rfl ?_)))
  obtain ⟨m6, e1⟩ : ∃ m, (s.heap.update a (Obj.mapSeq fun _ => #[])).get? a = some (seqObj "list" #[] m) := ⟨_, get?_update_seq ho (fun _ => #[])⟩
  refine wpAny_bind (seqEpoch_at e1 rfl (wpAny_bind (wpAny_newTuple (wpAny_bind (wpAny_newList (wpAny_holding ?_))))))
  generalize hH : ((s.heap.update a (Obj.mapSeq fun _ => #[])).push (seqObj "tuple" vs.toArray 0)).push (seqObj "list" #[] 0) = H1
  have upn : ∀ b, b ≠ a → (s.heap.update a (Obj.mapSeq fun _ => #[])).get? b = s.heap.get? b := fun b hb => Heap.get?_update_ne _ b a _ hb
  have kp : Kp a s.heap H1 := fun b o hb hg => by
    rw [← hH]
    exact Heap.get?_push_of_some _ (Heap.get?_push_of_some _ ((upn b hb).trans hg))
  have at6 : H1.get? a = some (seqObj "list" #[] m6) := by
    rw [← hH]
    exact Heap.get?_push_of_some _ (Heap.get?_push_of_some _ e1)
  have le : vs.length ≤ sizeLine := Nat.le_of_lt (Nat.lt_trans h64 (by rw [sizeLine_eq]; decide))
  have hzip : vs.toArray.zip vs.toArray = pairsOf vs := rfl
  have last : ∀ z : SortSt, (arrOf z).Perm (pairsOf vs) → SortedToK q (arrOf z) (pairsOf vs).size → failedOf z = none →
      wpAny (model prog w) A (do
        let sorted := (arrOf z).map (·.2)
        let touched := (← seqEpoch a) != m6
        Builtin.List.listUpdate (.ref a) fun _ => sorted
        if let some e := failedOf z then rule "list.sort.comparison-raised"; throw e
        if touched then rule "list.sort.modified"; raiseError "ValueError" "list modified during sort"
        ret .none) R E { s with heap := H1 } := fun z p1 p2 p3 => by
    refine wpAny_bind (seqEpoch_at (s := { s with heap := H1 }) at6 rfl (wpAny_bind (listUpdate_at (s := { s with heap := H1 }) at6 rfl ?_ (Nat.zero_le _) ?_)))
    · rw [p3, bne_self_eq_false]
      have fin := h z p1 p2
      unfold sortedHeap at fin
      rw [hH] at fin
      exact wpAny_pure fin
    · rw [Array.size_map, p1.size_eq, pairsOf_size]
      lia
  have sz : vs.toArray.size = vs.length := by simp
  show wpAny (model prog w) A _ R E { s with heap := H1 }
  dsimp only
  by_cases h2 : vs.toArray.size < 2
  · rw [if_pos h2, if_pos h2]
    refine wpAny_bind (wpAny_pure ?_)
    rw [StateT.run_pure]
    refine wpAny_bind (wpAny_pure ?_)
    exact last (SortSt.mk' general' (pairsOf vs) #[] 7 none) (Array.Perm.refl _) (fun i j h3 h4 => by
      rw [pairsOf_size] at h4
      have e : i = j := by lia
      subst e
      exact KeyOrd.kle_refl _) rfl
  · rw [if_neg h2, if_neg h2]
    refine wpAny_bind (hk (by lia) { s with heap := H1 } kp ?_)
    have run := run_all (G { s with heap := H1 } kp) (z := SortSt.mk' kd (pairsOf vs) #[] 7 none) ⟨Array.Perm.refl _, rfl, rfl, rfl⟩ (by rw [pairsOf_size]; lia) (by rw [pairsOf_size]; exact h64) (R := fun _ z' => (arrOf z').Perm (pairsOf vs) ∧ failedOf z' = none ∧ SortedToK q (arrOf z') (pairsOf vs).size) fun z' a1 a2 a3 => ⟨a1, a2, a3⟩
    refine wpAny_bind (wpAny_mono run (fun r s' hr => ?_) fun _ _ e => e)
    obtain ⟨u, z⟩ := r
    obtain ⟨rfl, p1, p2, p3⟩ := hr
    exact last z p1 p3 p2
/-- sorted(l) -/
theorem sorted_by {l : Addr} {vs : List Value} {q : PyProof.Rows.KeyKind} {kd : SortKind} {R : Value → Shared → Prop} (hl : s.heap.IsList l vs.toArray) (h64 : vs.length < 64)
    (hk : 2 ≤ vs.length → ∀ (A' : Around) (s' : Shared), (∀ b o, s.heap.get? b = some o → s'.heap.get? b = some o) → ∀ {Q : SortKind → Shared → Prop} {E : Value → Shared → Prop}, Q kd s' → wpAny (model prog w) A' (keyKind' vs.toArray) Q E s')
    (G : ∀ (s' : Shared) (E : Value → Shared → Prop), (∀ b o, s.heap.get? b = some o → s'.heap.get? b = some o) → Ans prog w A.in1.in1 E s' q kd (pairsOf vs))
    (h : ∀ z : SortSt, (arrOf z).Perm (pairsOf vs) → SortedToK q (arrOf z) (pairsOf vs).size → R (.ref (s.heap.objs.size + 1)) { s with heap := sortedAll s.heap vs ((arrOf z).map (·.2)) }) :
    wpAny (model prog w) A (call (.builtin "sorted") [.ref l]) R E s := by
  refine Calls.call_function_entry kind_sorted plain_sorted entry_sorted (args_sorted1 _) ?_
  unfold Builtin.«sorted»
  refine wpAny_bind (m := checkCount "sorted" 1 1 _) (wpAny_pure (wpAny_bind (collect_list hl (wpAny_bind (wpAny_newList ?_)) ?_)))
  · have big : ((s.heap.push (seqObj "list" #[] 0)).update s.heap.objs.size (Obj.mapSeq (· ++ vs.toArray))).objs.size = s.heap.objs.size + 1 := (Heap.size_update _ _ _).trans (size_push' _ _)
    generalize hH : (s.heap.push (seqObj "list" #[] 0)).update s.heap.objs.size (Obj.mapSeq (· ++ vs.toArray)) = H2 at big
    have old : ∀ b o, s.heap.get? b = some o → H2.get? b = some o := fun b o e => by
      rw [← hH, Heap.get?_update_ne _ b _ _ (Nat.ne_of_lt (Heap.lt_size e))]
      exact Heap.get?_push_of_some _ e
    have new : (H2.push (seqObj "list" vs.toArray 0)).get? H2.objs.size = some (seqObj "list" vs.toArray 0) := Heap.get?_push_size _ rfl
    have kp2 : ∀ s' : Shared, Kp H2.objs.size (H2.push (seqObj "list" vs.toArray 0)) s'.heap → ∀ b o, s.heap.get? b = some o → s'.heap.get? b = some o := fun s' k b o e => by
      have lb := Heap.lt_size e
      exact k b o (by rw [big]; exact Nat.ne_of_lt (Nat.lt_succ_of_lt lb)) (Heap.get?_push_of_some _ (old b o e))
    refine wpAny_bind (wpAny_holding (wpAny_call_entry slot_list_sort ⟨_, new, rfl⟩ entry_list_sort (sort_tree (s := { s with heap := H2.push (seqObj "list" vs.toArray 0) }) (q := q) (kd := kd) new h64 (fun h2 s' k {Q} hq => hk h2 _ s' (kp2 s' k) hq) (fun s' k => G s' _ (kp2 s' k)) fun z p1 p2 => ⟨_, rfl, ?_⟩) (args_list_sort _)))
    have fin := h z p1 p2
    unfold sortedAll at fin
    rw [hH, ← big] at fin
    exact wpAny_pure ⟨_, rfl, fin⟩
  · exact Nat.le_of_lt (Nat.lt_trans h64 (by rw [sizeLine_eq]; decide))
end
end L2

set_option Elab.async false
set_option linter.all false
set_option maxRecDepth 100000
set_option maxHeartbeats 4000000
/-! sorted, of tuples: how tuples compare -/
namespace L2
open PySem PyProof.Rows
/-- a kind of items: how they lie in the heap, how they compare -/
structure ItK (β : Type) [DecidableEq β] where
  isK : Heap → β → Value → Prop
  blt : β → β → Bool
  irr : ∀ a, blt a a = false
  tr : ∀ a b c, blt a b = true → blt b c = true → blt a c = true
  tot : ∀ a b, a ≠ b → blt a b = true ∨ blt b a = true
  inj : ∀ h a b v, isK h a v → isK h b v → a = b
  keep : ∀ h h' a v, (∀ b o, h.get? b = some o → h'.get? b = some o) → isK h a v → isK h' a v
  ty : String
  tyIs : ∀ (s : Shared) a v, isK s.heap a v → s.TypeIs v ty
  eq : ∀ {prog : Program} {w : World} {A : Around} {E : Value → Shared → Prop} {s : Shared} {a b : β} {u v : Value} {Q : Bool → Shared → Prop}, A.units < cLine → isK s.heap a u → isK s.heap b v → Q (decide (a = b)) s → wpAny (model prog w) A (eqBool u v) Q E s
  lt : ∀ {prog : Program} {w : World} {A : Around} {E : Value → Shared → Prop} {s : Shared} {a b : β} {u v : Value} {Q : Bool → Shared → Prop} (f : Bool), (f = true → ty ≠ "tuple") → A.units < cLine → isK s.heap a u → isK s.heap b v → Q (blt a b) s → wpAny (model prog w) A (oneLt' f u v) Q E s
section
variable {β : Type} [DecidableEq β] (k : ItK β)
noncomputable def lexB : List β → List β → Bool
  | [], [] => false
  | [], _ :: _ => true
  | _ :: _, [] => false
  | a :: r, b :: t => if a = b then lexB r t else k.blt a b
theorem lexB_irr : ∀ a, lexB k a a = false
  | [] => rfl
  | a :: r => by unfold lexB; rw [if_pos rfl]; exact lexB_irr r
theorem lexB_tr : ∀ a b c, lexB k a b = true → lexB k b c = true → lexB k a c = true
  | [], [], _, h, _ => by cases h
  | [], _ :: _, [], _, h => by cases h
  | [], _ :: _, _ :: _, _, _ => rfl
  | _ :: _, [], _, h, _ => by cases h
  | _ :: _, _ :: _, [], _, h => by cases h
  | a :: r, b :: t, c :: u, h1, h2 => by
    unfold lexB at h1 h2 ⊢
    by_cases e1 : a = b
    · subst e1
      rw [if_pos rfl] at h1
      by_cases e2 : a = c
      · rw [if_pos e2] at h2 ⊢
        exact lexB_tr r t u h1 h2
      · rw [if_neg e2] at h2 ⊢
        exact h2
    · rw [if_neg e1] at h1
      by_cases e2 : b = c
      · subst e2
        rw [if_neg e1]
        exact h1
      · rw [if_neg e2] at h2
        have h3 := k.tr a b c h1 h2
        by_cases e3 : a = c
        · subst e3
          rw [k.irr a] at h3
          cases h3
        · rw [if_neg e3]
          exact h3
theorem lexB_tot : ∀ a b, lexB k a b = false → lexB k b a = false → a = b
  | [], [], _, _ => rfl
  | [], _ :: _, h, _ => by cases h
  | _ :: _, [], _, h => by cases h
  | a :: r, b :: t, h1, h2 => by
    unfold lexB at h1 h2
    by_cases e : a = b
    · rw [if_pos e] at h1
      rw [if_pos e.symm] at h2
      rw [e, lexB_tot r t h1 h2]
    · rw [if_neg e] at h1
      rw [if_neg (Ne.symm e)] at h2
      rcases k.tot a b e with h | h
      · rw [h] at h1; cases h1
      · rw [h] at h2; cases h2
/-- a tuple of such items -/
noncomputable def IsKey (h : Heap) (ks : List β) (v : Value) : Prop := ∃ a its, v = .ref a ∧ IsTup h a its ∧ Paired (k.isK h) ks its.toList
variable {k}
theorem pair_inj {h : Heap} : ∀ {ks ls : List β} {vs : List Value}, Paired (k.isK h) ks vs → Paired (k.isK h) ls vs → ks = ls
  | _, _, _, .nil, .nil => rfl
  | _, _, _, .cons a r, .cons b t => by rw [k.inj h _ _ _ a b, pair_inj r t]
theorem IsKey.inj {h : Heap} {ks ls : List β} {v : Value} (a : IsKey k h ks v) (b : IsKey k h ls v) : ks = ls := by
  obtain ⟨p, its, rfl, ⟨o, h1, h2, n, h3⟩, r⟩ := a
  obtain ⟨p', its', e, ⟨o', h1', h2', n', h3'⟩, r'⟩ := b
  cases e
  rw [h1] at h1'
  cases h1'
  rw [h3] at h3'
  cases h3'
  exact pair_inj r r'
theorem pair_keep {h h' : Heap} (e : ∀ b o, h.get? b = some o → h'.get? b = some o) : ∀ {ks : List β} {vs : List Value}, Paired (k.isK h) ks vs → Paired (k.isK h') ks vs
  | _, _, .nil => .nil
  | _, _, .cons a r => .cons (k.keep h h' _ _ e a) (pair_keep e r)
theorem IsKey.keep {h h' : Heap} (e : ∀ b o, h.get? b = some o → h'.get? b = some o) {ks : List β} {v : Value} (a : IsKey k h ks v) : IsKey k h' ks v := by
  obtain ⟨p, its, rfl, ⟨o, h1, h2⟩, r⟩ := a
  exact ⟨p, its, rfl, ⟨o, e _ _ h1, h2⟩, pair_keep e r⟩
end
section
variable {β : Type} [DecidableEq β] (k : ItK β)
open Classical in
noncomputable def keyIn (h : Heap) (v : Value) : Option (List β) := if e : ∃ ks, IsKey k h ks v then some (Classical.choose e) else none
theorem keyIn_of {h : Heap} {ks : List β} {v : Value} (a : IsKey k h ks v) : keyIn k h v = some ks := by
  unfold keyIn
  have e : ∃ ks, IsKey k h ks v := ⟨ks, a⟩
  rw [dif_pos e]
  rw [(Classical.choose_spec e).inj a]
theorem keyIn_is {h : Heap} {ks : List β} {v : Value} (e : keyIn k h v = some ks) : IsKey k h ks v := by
  unfold keyIn at e
  split at e
  · rename_i q
    cases e
    exact Classical.choose_spec q
  · cases e
noncomputable def tupOrd (h : Heap) : PyProof.Rows.KeyKind where
  α := List β
  blt := lexB k
  irrefl := lexB_irr k
  trans := lexB_tr k
  negTrans := fun a b c h1 => by
    by_cases h2 : lexB k a b = true
    · exact .inl h2
    · right
      have h2' : lexB k a b = false := by simpa using h2
      by_cases h3 : lexB k b a = true
      · exact lexB_tr k b a c h3 h1
      · have e := lexB_tot k a b h2' (by simpa using h3)
        rw [← e]
        exact h1
  total := lexB_tot k
  keyOf := keyIn k h
  dflt := []
variable {prog : Program} {w : World} {A : Around} {E : Value → Shared → Prop} {s : Shared}
theorem keyLt_tup {f : Bool} (hf : f = true → k.ty ≠ "tuple") (hu : A.units < cLine) {ks ls : List β} {u v : Value} (a : IsKey k s.heap ks u) (b : IsKey k s.heap ls v) {Q : Bool → Shared → Prop} (h : Q (lexB k ks ls) s) : wpAny (model prog w) A (keyLt' (tuples' f) u v) Q E s := by
  obtain ⟨p, its, rfl, ⟨o, h1, h2, n, h3⟩, r⟩ := a
  obtain ⟨p', its', rfl, ⟨o', h1', h2', n', h3'⟩, r'⟩ := b
  show wpAny (model prog w) A (do
    let xs ← Builtin.List.listItems (.ref p); let ys ← Builtin.List.listItems (.ref p')
    for ((p, q), i) in (xs.toList.zip ys.toList).zipIdx do
      if !(← eqBool p q) then return ← oneLt' (f && i == 0) p q
    return xs.size < ys.size) Q E s
  refine wpAny_bind (listItems_at h1 h3 (wpAny_bind (listItems_at h1' h3' ?_)))
  have hz1 : its.size = its.toList.length := by simp
  have hz2 : its'.size = its'.toList.length := by simp
  rw [hz1, hz2]
  generalize its.toList = us at r
  generalize its'.toList = vs at r'
  refine wpAny_bind (wpAny_mono (wpAny_forIn_list (M := model prog w) _ (fun rest (c : Option Bool × PUnit) s' => s' = s ∧ c.1 = none ∧ ∃ (i : Nat) (ks' ls' : List β) (us' vs' : List Value), rest = (us'.zip vs').zipIdx i ∧ Paired (k.isK s.heap) ks' us' ∧ Paired (k.isK s.heap) ls' vs' ∧ lexB k ks' ls' = lexB k ks ls ∧ us.length + vs'.length = vs.length + us'.length)
    (fun (c : Option Bool × PUnit) s' => s' = s ∧ (c.1 = some (lexB k ks ls) ∨ (c.1 = none ∧ decide (us.length < vs.length) = lexB k ks ls))) (fun x rest c s' hI => ?_) (fun c s' hI => ?_) _ _ ⟨rfl, rfl, 0, ks, ls, us, vs, rfl, r, r', rfl, by lia⟩) (fun c s2 hc => ?_) fun _ _ e => e)
  · obtain ⟨rfl, hc, i, ks', ls', us', vs', he, r1, r2, hl, hn⟩ := hI
    cases r1 with
    | nil => rw [List.zip_nil_left] at he; cases he
    | cons a1 r1 =>
      cases r2 with
      | nil => rw [List.zip_nil_right] at he; cases he
      | @cons c1 v1 lr vr b1 r2 =>
        rename_i d1 u1 kr ur
        rw [List.zip_cons_cons, List.zipIdx_cons] at he
        injection he with hx hr
        subst hx
        dsimp only
        refine wpAny_bind (k.eq hu a1 b1 ?_)
        rw [show lexB k (d1 :: kr) (c1 :: lr) = if d1 = c1 then lexB k kr lr else k.blt d1 c1 from rfl] at hl
        by_cases e : d1 = c1
        · rw [decide_eq_true e]
          rw [if_pos e] at hl
          exact wpAny_pure ⟨rfl, rfl, i + 1, kr, lr, ur, vr, hr, r1, r2, hl, by simp only [List.length_cons] at hn; lia⟩
        · rw [decide_eq_false e]
          rw [if_neg e] at hl
          refine wpAny_bind (k.lt (f && i == 0) (fun hf2 => hf (by rw [Bool.and_eq_true] at hf2; exact hf2.1)) hu a1 b1 ?_)
          exact wpAny_pure ⟨rfl, .inl (by rw [← hl])⟩
  · obtain ⟨rfl, hc, i, ks', ls', us', vs', he, r1, r2, hl, hn⟩ := hI
    refine ⟨rfl, .inr ⟨hc, ?_⟩⟩
    rw [← hl]
    cases r1 with
    | nil =>
      cases r2 with
      | nil => exact decide_eq_false (by simp only [List.length_nil] at hn; lia)
      | cons b1 r2 => exact decide_eq_true (by simp only [List.length_nil, List.length_cons] at hn; lia)
    | cons a1 r1 =>
      cases r2 with
      | nil => exact decide_eq_false (by simp only [List.length_nil, List.length_cons] at hn; lia)
      | cons b1 r2 => rw [List.zip_cons_cons, List.zipIdx_cons] at he; cases he
  · obtain ⟨rfl, hc | ⟨hc, hd⟩⟩ := hc
    · dsimp only
      rw [hc]
      exact wpAny_pure h
    · dsimp only
      rw [hc, hd]
      exact wpAny_pure h
/-! ### the kind of the keys -/
theorem mapM_by {γ δ : Type} {g : γ → Sem δ} {t : γ → δ} : ∀ {xs : List γ}, (∀ x ∈ xs, ∀ {Q : δ → Shared → Prop}, Q (t x) s → wpAny (model prog w) A (g x) Q E s) → ∀ {Q : List δ → Shared → Prop}, Q (xs.map t) s → wpAny (model prog w) A (xs.mapM g) Q E s
  | [], _, Q, h => by rw [List.mapM_nil]; exact wpAny_pure h
  | x :: r, hg, Q, h => by
    rw [List.mapM_cons]
    refine wpAny_bind (hg x List.mem_cons_self (wpAny_bind (mapM_by (fun y hy => hg y (List.mem_cons_of_mem _ hy)) (wpAny_pure ?_))))
    exact h
theorem mapM_arr {γ δ : Type} {g : γ → Sem δ} {t : γ → δ} {xs : List γ} (hg : ∀ x ∈ xs, ∀ {Q : δ → Shared → Prop}, Q (t x) s → wpAny (model prog w) A (g x) Q E s) {Q : Array δ → Shared → Prop} (h : Q (xs.map t).toArray s) : wpAny (model prog w) A (xs.toArray.mapM g) Q E s := by
  rw [List.mapM_toArray, map_eq_pure_bind]
  exact wpAny_bind (mapM_by hg (wpAny_pure h))
/-- the first item -/
noncomputable def headIs (s : Shared) (v x : Value) : Prop := ∃ a o its n, v = .ref a ∧ s.heap.get? a = some o ∧ o.cls = .type "tuple" ∧ o.data = .seq its n ∧ its[0]? = some x
theorem first_of {v x : Value} (h : headIs s v x) {Q : Option Value → Shared → Prop} (q : Q (some x) s) : wpAny (model prog w) A (firstOfTuple' v) Q E s := by
  obtain ⟨a, o, its, n, rfl, h1, h2, h3, h4⟩ := h
  show wpAny (model prog w) A (do
    if (← typeOf (.ref a)) != .type "tuple" then return none
    return (← Builtin.List.listItems (.ref a))[0]?) Q E s
  refine wpAny_bind (wpAny_typeOf (T := "tuple") ⟨o, h1, h2⟩ ?_)
  rw [if_neg (by rw [bne_self_eq_false]; exact Bool.false_ne_true)]
  refine wpAny_bind (listItems_at h1 h3 ?_)
  rw [h4]
  exact wpAny_pure q
theorem kind_of {vs : List Value} (hv : vs ≠ []) {x0 : Value → Value} {T : String} (h : ∀ v ∈ vs, headIs s v (x0 v)) (ht : ∀ v ∈ vs, s.TypeIs (x0 v) T) {Q : SortKind → Shared → Prop} (q : Q (tuples' (decide (T ≠ "tuple"))) s) : wpAny (model prog w) A (keyKind' vs.toArray) Q E s := by
  rw [keyKind'_eq]
  refine wpAny_bind (mapM_arr (t := fun v => some (x0 v)) (fun v hv2 {Q} hq => first_of (h v hv2) hq) ?_)
  rw [if_pos (by simp)]
  refine wpAny_bind (wpAny_rule ?_)
  have e : ((vs.map fun v => some (x0 v)).toArray.filterMap id) = (vs.map x0).toArray := by
    rw [List.filterMap_toArray, List.filterMap_map]
    congr 1
    simp [Function.comp_def]
  rw [e, oneTypeOnly'_eq]
  refine wpAny_bind (wpAny_bind (mapM_arr (t := fun _ => Value.type T) (fun v hv2 {Q} hq => ?_) ?_))
  · obtain ⟨v', hm, rfl⟩ := List.mem_map.mp hv2
    exact wpAny_typeOf (ht v' hm) hq
  · cases vs with
    | nil => exact absurd rfl hv
    | cons v r =>
      have e0 : ((List.map (fun _ => Value.type T) (List.map x0 (v :: r))).toArray)[0]? = some (Value.type T) := by simp
      rw [e0]
      have ea : ((List.map (fun _ => Value.type T) (List.map x0 (v :: r))).toArray.all fun x => x == Value.type T) = true := by
        simp only [List.all_toArray, List.all_map, List.all_eq_true]
        intro _ _
        exact beq_self_eq_true _
      dsimp only
      rw [ea, if_pos rfl]
      refine wpAny_pure (wpAny_pure ?_)
      have eb : (Option.any (fun x => x != Value.type "tuple") (some (Value.type T))) = decide (T ≠ "tuple") := by
        show (Value.type T != Value.type "tuple") = _
        by_cases hT : T = "tuple"
        · rw [hT]; simp
        · rw [decide_eq_true hT]
          simp [hT]
      rw [eb]
      exact q
end
end L2

set_option Elab.async false
set_option linter.all false
set_option maxRecDepth 100000
set_option maxHeartbeats 4000000
/-! sorted, of lists of tuples, as data -/
namespace L2
open PySem PyProof.Rows
theorem oneLt_false {prog : Program} {w : World} {A : Around} {E : Value → Shared → Prop} {s : Shared} {x y : Value} {b : Bool} {Q : Bool → Shared → Prop} (h : ∀ {R : Value → Shared → Prop}, R (.bool b) s → wpAny (model prog w) A (richCompare .Lt x y) R E s) (q : Q b s) : wpAny (model prog w) A (oneLt' false x y) Q E s := by
  rw [oneLt'_eq]
  rw [if_neg Bool.false_ne_true]
  exact wpAny_bind (h (wpAny_truthy_bool q))
noncomputable def intItem : ItK Int where
  isK := fun _ n v => ∃ t, v = .int n t
  blt := fun a b => decide (a < b)
  irr := fun a => decide_eq_false (by lia)
  tr := fun a b c h1 h2 => decide_eq_true (by have := of_decide_eq_true h1; have := of_decide_eq_true h2; lia)
  tot := fun a b h => by
    rcases Int.lt_or_gt_of_ne h with q | q
    · exact .inl (decide_eq_true q)
    · exact .inr (decide_eq_true q)
  inj := fun _ a b v ⟨t, e⟩ ⟨t', e'⟩ => by rw [e] at e'; injection e'
  keep := fun _ _ _ _ _ h => h
  ty := "int"
  tyIs := fun s a v ⟨t, e⟩ => by rw [e]; exact typeIs_int s a t
  eq := fun {prog w A E s a b u v Q} _ ⟨t, e⟩ ⟨t', e'⟩ q => by
    rw [e, e']
    exact wpAny_eqBool_int (by rw [Bool.beq_eq_decide_eq]; exact q)
  lt := fun {prog w A E s a b u v Q} f _ _ ⟨t, e⟩ ⟨t', e'⟩ q => by
    rw [e, e']
    cases f with
    | true => exact oneLt_int q
    | false => exact oneLt_false (fun {R} r => wpAny_richCompare_same (typeIs_int s a t) (typeIs_int s b t') slot_int_lt (call_int_lt ⟨(fun x => nomatch x), r⟩)) q
/-! ### what comes out -/
section
variable {β : Type} [DecidableEq β] (k : ItK β)
noncomputable def insB (x : List β) : List (List β) → List (List β)
  | [] => [x]
  | y :: r => if lexB k y x = true then y :: insB x r else x :: y :: r
noncomputable def sortB : List (List β) → List (List β)
  | [] => []
  | x :: r => insB k x (sortB r)
theorem insB_perm (x : List β) : ∀ r, (insB k x r).Perm (x :: r)
  | [] => .refl _
  | y :: r => by
    unfold insB
    split
    · exact ((insB_perm x r).cons y).trans (.swap x y r)
    · exact .refl _
theorem sortB_perm : ∀ r, (sortB k r).Perm r
  | [] => .refl _
  | x :: r => (insB_perm k x (sortB k r)).trans ((sortB_perm r).cons x)
noncomputable def leB (a b : List β) : Prop := lexB k b a = false
theorem leB_trans {a b c : List β} (h1 : leB k a b) (h2 : leB k b c) : leB k a c := by
  unfold leB at *
  by_cases h : lexB k c a = true
  · by_cases h3 : lexB k a b = true
    · have := lexB_tr k c a b h h3
      rw [h2] at this; cases this
    · have e := lexB_tot k a b (by simpa using h3) h1
      subst e
      rw [h2] at h; cases h
  · simpa using h
theorem insB_sorted (x : List β) : ∀ {r}, r.Pairwise (leB k) → (insB k x r).Pairwise (leB k)
  | [], _ => by simp [insB]
  | y :: r, h => by
    obtain ⟨h1, h2⟩ := List.pairwise_cons.mp h
    unfold insB
    split
    · rename_i hyx
      refine List.pairwise_cons.mpr ⟨fun z hz => ?_, insB_sorted x h2⟩
      rcases List.mem_cons.mp ((insB_perm k x r).mem_iff.mp hz) with e | e
      · rw [e]
        unfold leB
        by_cases q : lexB k x y = true
        · have := lexB_tr k x y x q hyx
          rw [lexB_irr] at this; cases this
        · simpa using q
      · exact h1 z e
    · rename_i hyx
      have hxy : leB k x y := by unfold leB; simpa using hyx
      refine List.pairwise_cons.mpr ⟨fun z hz => ?_, h⟩
      rcases List.mem_cons.mp hz with e | e
      · rw [e]; exact hxy
      · exact leB_trans k hxy (h1 z e)
theorem sortB_sorted : ∀ r, (sortB k r).Pairwise (leB k)
  | [] => .nil
  | x :: r => insB_sorted k x (sortB_sorted r)
theorem sortB_eq {a b : List (List β)} (p : a.Perm b) (h : a.Pairwise (leB k)) : a = sortB k b :=
  (p.trans (sortB_perm k b).symm).eq_of_pairwise (fun _ _ _ _ h1 h2 => lexB_tot k _ _ h2 h1) h (sortB_sorted k b)
end
theorem repAll_map {K : PySem.W.Frag} {A : Option Addr → Prop} {H : Hp} {γ : Type} {f : γ → V} {g : γ → PyData} : ∀ {l : List γ}, (∀ p ∈ l, Rep K A H (f p) (g p)) → RepAll K A H (l.map f) (l.map g)
  | [], _ => .nil
  | p :: r, h => .cons (h p List.mem_cons_self) (repAll_map fun x hx => h x (List.mem_cons_of_mem _ hx))
noncomputable def toV : Value → V
  | .ref a => .ref a
  | _ => .non
section
variable {β : Type} [DecidableEq β]
/-- how data of such tuples lies in the heap -/
class EncK (k : outParam (ItK β)) (enc : List β → PyData) : Prop where
  rd : ∀ {X : Cx} {pins : List (Addr × Obj)} {σ : St} {H : Hp} {s : Shared} {A : Option Addr → Prop} {v : V} {u : Value} {t : List β}, Inv X pins σ H s → Rep X.K A H v (enc t) → RelV v u → IsKey k s.heap t u
  im : ∀ t, immB (enc t) = true
theorem call_sortedT {k : ItK β} {enc : List β → PyData} [e : EncK k enc] {X : Cx} (hu : X.A.units + 64 < cLine) : CallR X (.builtin "sorted") (fun xs H Q => ∃ (p : Addr) (ys : List V) (ts : List (List β)), xs = [.ref p] ∧ SqL X.K H p ys ∧ RepAll X.K (fun _ => True) H ys (ts.map enc) ∧ ts.length < 64 ∧ (∀ t ∈ ts, t ≠ []) ∧
    ∀ l zs, H l = none → RepAll X.K (fun _ => False) (upd H l (.lst zs)) zs ((sortB k ts).map enc) → Q (.ref l) (upd H l (.lst zs))) := by
  intro pins s σ H xs us Q I r h
  obtain ⟨p, ys, ts, rfl, hq, hr, h64, hne, q⟩ := h
  obtain ⟨u, rfl, ru⟩ := r.one
  cases ru
  obtain ⟨vs, rv, pl, hz⟩ := I.list hq
  have l1 := rv.length
  have l2 := hr.length
  rw [List.length_map] at l2
  -- each value is a key
  have key : ∀ (i : Nat) (v : Value), vs[i]? = some v → ∃ t, ts[i]? = some t ∧ IsKey k s.heap t v ∧ ∃ a, v = .ref a ∧ Rep X.K (fun _ => False) H (.ref a) (enc t) := fun i v hv => by
    have hi : i < vs.length := (List.getElem?_eq_some_iff.mp hv).1
    have hy : ys[i]? = some ys[i] := List.getElem?_eq_getElem (by lia)
    obtain ⟨u, hu1, hu2⟩ := rv.get hy
    rw [hv] at hu1
    cases hu1
    obtain ⟨d, hd1, hd2⟩ := hr.get' hy
    rw [List.getElem?_map, List.getElem?_eq_getElem (show i < ts.length by lia)] at hd1
    cases hd1
    have ik := e.rd I hd2 hu2
    obtain ⟨a, its, rfl, _⟩ := id ik
    have ev : ys[i] = .ref a := by
      generalize ys[i] = y at hu2 hd2
      cases y with
      | ref b => cases hu2; rfl
      | non => cases hu2
      | bl b => cases hu2
      | int b => obtain ⟨t, e2⟩ := hu2; cases e2
      | str b => obtain ⟨t, e2⟩ := hu2; cases e2
      | byt b => obtain ⟨t, e2⟩ := hu2; cases e2
      | flt b => obtain ⟨t, e2⟩ := hu2; cases e2
      | ty b => cases hu2
    rw [ev] at hd2
    exact ⟨_, List.getElem?_eq_getElem (by lia), ik, a, rfl, hd2.imm0 (e.im _)⟩
  have keyM : ∀ v ∈ vs, ∃ t, t ∈ ts ∧ IsKey k s.heap t v ∧ ∃ a, v = .ref a ∧ Rep X.K (fun _ => False) H (.ref a) (enc t) := fun v hv => by
    obtain ⟨i, hi, rfl⟩ := List.getElem_of_mem hv
    obtain ⟨t, h1, h2⟩ := key i _ (List.getElem?_eq_getElem hi)
    exact ⟨t, List.mem_of_getElem? h1, h2⟩
  have hk : vs.map (fun v => (keyIn k s.heap v).getD []) = ts := by
    apply List.ext_getElem?
    intro i
    rw [List.getElem?_map]
    cases hv : vs[i]? with
    | none =>
      have : vs.length ≤ i := List.getElem?_eq_none_iff.mp hv
      exact (List.getElem?_eq_none_iff.mpr (by lia)).symm
    | some v =>
      obtain ⟨t, h1, h2, _⟩ := key i v hv
      rw [h1]
      show some ((keyIn k s.heap v).getD []) = some t
      rw [keyIn_of k h2]
      rfl
  have pv : ∀ pr, pr ∈ (pairsOf vs).toList → pr.1 = pr.2 ∧ pr.1 ∈ vs := fun pr hp => by
    rw [pairsOf_toList] at hp
    obtain ⟨i, hi, e2⟩ := List.getElem_of_mem hp
    rw [List.getElem_zip] at e2
    rw [← e2]
    exact ⟨rfl, List.getElem_mem _⟩
  have nodict : (fun (z : Unit) => True) () := trivial
  refine sorted_by (q := tupOrd k s.heap) (kd := tuples' (decide (k.ty ≠ "tuple"))) pl.isList (by lia) (fun h2 A' s' kp {Q'} {E'} hQ => ?_) (fun s' E' kp => ?_) fun z p1 p2 => ?_
  · -- the kind
    have hd : ∀ v, v ∈ vs → ∃ x, headIs s' v x ∧ s'.TypeIs x k.ty := fun v hv => by
      obtain ⟨t, ht, ik, _⟩ := keyM v hv
      obtain ⟨a, its, rfl, ⟨o, o1, o2, n, o3⟩, pr⟩ := ik.keep kp
      cases t with
      | nil => exact absurd rfl (hne _ ht)
      | cons b r2 =>
        generalize hl : its.toList = lst at pr
        cases pr with
        | cons c1 c2 =>
          refine ⟨_, ⟨a, o, its, n, rfl, o1, o2, o3, ?_⟩, k.tyIs s' _ _ c1⟩
          rw [← Array.getElem?_toList, hl]
          rfl
    have ch : ∃ x0 : Value → Value, ∀ v ∈ vs, headIs s' v (x0 v) ∧ s'.TypeIs (x0 v) k.ty := by
      refine ⟨fun v => open Classical in if hv : ∃ x, headIs s' v x ∧ s'.TypeIs x k.ty then Classical.choose hv else .none, fun v hv => ?_⟩
      have hx := hd v hv
      dsimp only
      rw [dif_pos hx]
      exact Classical.choose_spec hx
    obtain ⟨x0, hx0⟩ := ch
    exact kind_of (by intro e2; rw [e2] at h2; simp at h2) (fun v hv => (hx0 v hv).1) (fun v hv => (hx0 v hv).2) hQ
  · -- the answers
    refine ⟨fun pr hp => ?_, fun u v c d hc hd {R} {z} hkd hR => ?_⟩
    · obtain ⟨t, _, ik, _⟩ := keyM pr.1 (pv pr hp).2
      exact ⟨t, keyIn_of k ik⟩
    · rw [lt'_eq]
      refine wpS_bind (wpS_get ?_)
      rw [hkd]
      have au : X.A.in1.in1.units < cLine := by show X.A.units + 1 + 1 < cLine; lia
      refine wpS_bind (wpS_lift (wpAny_attempt (keyLt_tup k (fun hf => of_decide_eq_true hf) au ((keyIn_is k hc).keep kp) ((keyIn_is k hd).keep kp) ⟨rfl, ?_⟩)))
      exact wpS_pure hR
  · -- the end
    have perm := Array.perm_iff_toList_perm.mp p1
    let kl := (arrOf z).toList.map (fun pr => (keyIn k s.heap pr.1).getD [])
    have klp : kl.Perm ts := by
      have h1 : kl.Perm ((pairsOf vs).toList.map fun pr => (keyIn k s.heap pr.1).getD []) := perm.map _
      have h2 : ((pairsOf vs).toList.map fun pr => (keyIn k s.heap pr.1).getD []) = ts := by
        rw [pairsOf_toList, ← hk]
        have : (vs.zip vs).map Prod.fst = vs := List.map_fst_zip (Nat.le_refl _)
        rw [show (fun pr : Value × Value => (keyIn k s.heap pr.1).getD []) = (fun v => (keyIn k s.heap v).getD []) ∘ Prod.fst from rfl, ← List.map_map, this]
      rw [h2] at h1
      exact h1
    have kls : kl.Pairwise (leB k) := by
      rw [List.pairwise_iff_getElem]
      intro i j hi hj hij
      have hi' : i < (arrOf z).size := by simpa [kl] using hi
      have hj' : j < (arrOf z).size := by simpa [kl] using hj
      have h1 := p2 i j (Nat.le_of_lt hij) (by rw [← p1.size_eq]; exact hj')
      have kk : ∀ n (hn : n < (arrOf z).size), KK (tupOrd k s.heap) (arrOf z) n = (keyIn k s.heap ((arrOf z)[n]).1).getD [] := fun n hn => by
        unfold KK
        rw [Array.getElem?_eq_getElem hn]
        rfl
      rw [kk i hi', kk j hj'] at h1
      have h2 : lexB k ((keyIn k s.heap ((arrOf z)[j]).1).getD []) ((keyIn k s.heap ((arrOf z)[i]).1).getD []) = false := h1
      simpa [kl, leB] using h2
    have ek := sortB_eq k klp kls
    let zs := (arrOf z).toList.map (fun pr => toV pr.2)
    have el : ∀ pr ∈ (arrOf z).toList, ∃ a t, pr.2 = .ref a ∧ keyIn k s.heap pr.1 = some t ∧ Rep X.K (fun _ => False) H (.ref a) (enc t) := fun pr hp => by
      obtain ⟨h1, h2⟩ := pv pr (perm.mem_iff.mp hp)
      obtain ⟨t, _, ik, a, ea, rp⟩ := keyM pr.1 h2
      exact ⟨a, t, by rw [← h1]; exact ea, keyIn_of k ik, rp⟩
    have rz : RepAll X.K (fun _ => False) H zs ((sortB k ts).map enc) := by
      rw [← ek, List.map_map]
      refine repAll_map fun pr hp => ?_
      obtain ⟨a, t, e1, e2, e3⟩ := el pr hp
      show Rep _ _ _ (toV pr.2) (enc ((keyIn k s.heap pr.1).getD []))
      rw [e1, e2]
      exact e3
    have vz : Vals zs ((arrOf z).map (·.2)).toList := by
      rw [Array.toList_map]
      have : ∀ l : List Keyed, (∀ pr ∈ l, ∃ a, pr.2 = Value.ref a) → Vals (l.map fun pr => toV pr.2) (l.map (·.2)) := fun l => by
        induction l with
        | nil => intro _; exact .nil
        | cons pr r ih =>
          intro hl
          obtain ⟨a, ea⟩ := hl pr List.mem_cons_self
          refine .cons ?_ (ih fun x hx => hl x (List.mem_cons_of_mem _ hx))
          show RelV (toV pr.2) pr.2
          rw [ea]
          exact rfl
      exact this _ fun pr hp => by obtain ⟨a, t, e1, _⟩ := el pr hp; exact ⟨a, e1⟩
    obtain ⟨ep, eo⟩ := sortedAll_at s.heap vs ((arrOf z).map (·.2))
    have lz : zs.length ≤ sizeLine := by
      rw [rz.length, List.length_map, (sortB_perm k ts).length_eq]
      exact Nat.le_of_lt (Nat.lt_trans h64 (by rw [sizeLine_eq]; decide))
    have hnew : H (s.heap.objs.size + 1) = none := I.hok.fresh (Nat.le_succ _)
    refine ⟨.ref (s.heap.objs.size + 1), _, I.laid (a := s.heap.objs.size + 1) (o := .lst zs) (t' := s.toks) (fun b u e => sortedAll_old e) (Nat.le_succ _) ⟨lz, ((arrOf z).map (·.2)).toList, ep, vz, ?_⟩, rfl, q _ zs hnew (rz.mono (same_new hnew _).ext)⟩
    rw [Array.toArray_toList]
    exact eo
noncomputable instance callSortT {k : ItK β} (enc : List β → PyData) [e : EncK k enc] (ts : List (List β)) : CallD (.builtin "sorted") [.list (ts.map enc)] (.list ((sortB k ts).map enc)) (ts.length < 64 ∧ ∀ t ∈ ts, t ≠ []) := ⟨fun h {X} _ hu => ⟨_, call_sortedT hu, fun xs H Q rx q => by
  obtain ⟨x, rfl, r1⟩ := rx.one
  obtain ⟨a, ys, rfl, h1, h2⟩ := r1.toList
  exact ⟨a, ys, ts, rfl, h1.sq, h2, h.1, h.2, fun l zs hl rz => q _ _ (same_new hl _) (.lst (.inl ⟨upd_same, hl⟩) (rz.weak fun _ z => z.elim))⟩⟩⟩
end
/-- lies and places -/
noncomputable instance encLie : EncK intItem (fun t : List Int => PyData.tuple (List.map PyData.int t)) where
  rd := fun {X pins σ H s A v u t} I r ru => by
    obtain ⟨a, xs, rfl, h1, h2⟩ := r.toTup
    have e := h2.of_ints
    subst e
    cases ru
    obtain ⟨its, rv, pt, _⟩ := I.tuple h1
    have go : ∀ {ns : List Int} {us : List Value}, Vals (ns.map V.int) us → Paired (intItem.isK s.heap) ns us := fun {ns} => by
      induction ns with
      | nil => intro us r; cases r; exact .nil
      | cons n ns ih =>
        intro us r
        cases r with
        | cons r1 r2 => exact .cons r1 (ih r2)
    exact ⟨a, its.toArray, rfl, pt, by rw [List.toList_toArray]; exact go rv⟩
  im := fun t => immAll_map (fun _ => rfl) t
end L2

set_option Elab.async false
set_option linter.all false
set_option maxRecDepth 100000
set_option maxHeartbeats 4000000
/-! The die in plain Lean: hands, all lies turned at once -/
namespace Die
open PySem L2
end Die

set_option Elab.async false
set_option linter.all false
set_option maxRecDepth 100000
set_option maxHeartbeats 4000000
/-! Dicts whose keys are tuples: reading and writing them -/
namespace L2
open PySem PySem.Spec PyProof.Rows
section
variable {X : Cx} {pins : List (Addr × Obj)} {σ : St} {H : Hp} {s : Shared} {A : Option Addr → Prop}
mutual
theorem Rep.krd (I : Inv X pins σ H s) : ∀ {v : V} {d : PyData}, Rep X.K A H v d → keyB d = true → ∀ {u : Value}, RelV v u → KRd s.heap d u
  | _, _, .int i, _, _, r => by obtain ⟨t, e⟩ := (show ∃ t, _ = Value.int i t from r); cases e; exact .int i t
  | _, _, .tup h q, k, _, r => by
    cases r
    obtain ⟨its, rv, ⟨o, e, c, n, dt⟩, _⟩ := I.tuple h
    exact .tup e c dt (by simpa using RepAll.krds I q k rv)
  | _, _, .non, k, _, _ => by cases k
  | _, _, .bl _, k, _, _ => by cases k
  | _, _, .str _, k, _, _ => by cases k
  | _, _, .lst _ _, k, _, _ => by cases k
  | _, _, .dct _ _ _, k, _, _ => by cases k
theorem RepAll.krds (I : Inv X pins σ H s) : ∀ {vs : List V} {ds : List PyData}, RepAll X.K A H vs ds → keyBs ds = true → ∀ {us : List Value}, Vals vs us → KRds s.heap ds us
  | _, _, .nil, _, _, .nil => .nil
  | _, _, .cons (d := d) (ds := ds) h q, k, _, .cons r rr => by
    have k' : (keyB d && keyBs ds) = true := k
    rw [Bool.and_eq_true] at k'
    exact .cons (Rep.krd I h k'.1 r) (RepAll.krds I q k'.2 rr)
end
theorem RepKV.keys (I : Inv X pins σ H s) : ∀ {xs : List DEnt} {kvs : List (PyData × PyData)}, RepKV X.K A H xs kvs → ∀ x ∈ xs, (keyKindD X.prog X.w).is s.heap x.1 x.2.1
  | _, _, .nil, x, hx => by cases hx
  | _, _, .cons h1 h2 h3 h4 h5 r, x, hx => by
    rcases List.mem_cons.mp hx with e | hx
    · subst e; exact ⟨h1.krd I h2 rfl, h3⟩
    · exact RepKV.keys I r x hx
theorem DOk.dictOf (I : Inv X pins σ H s) {a : Addr} {xs : List DEnt} {kvs : List (PyData × PyData)} (h : DOk H a xs) (r : RepKV X.K A H xs kvs) : Heap.DictOfH (keyKindD X.prog X.w) s.heap a xs := by
  obtain ⟨ep, h0⟩ := h.at'
  obtain ⟨⟨o, es, e1, e2, e3, e4⟩, _⟩ := I.hok a _ h0
  exact ⟨o, es, ep, e1, e2, e3, e4, r.keys I, h.nd⟩
end
/-! ### the data of a dict -/
noncomputable def dAt (kvs : List (PyData × PyData)) (k : PyData) : Option PyData := (kvs.find? fun x => decide (x.1 = k)).map (·.2)
noncomputable def dPut (kvs : List (PyData × PyData)) (k d : PyData) : List (PyData × PyData) := if (dAt kvs k).isSome then kvs.map (fun x => if x.1 = k then (x.1, d) else x) else kvs ++ [(k, d)]
section
variable {K : PySem.W.Frag} {A : Option Addr → Prop} {H : Hp}
theorem RepKV.at : ∀ {xs : List DEnt} {kvs : List (PyData × PyData)} (k : PyData), RepKV K A H xs kvs → (atKey xs k = none ∧ dAt kvs k = none) ∨ ∃ p d y, atKey xs k = some p ∧ dAt kvs k = some d ∧ RelV y p.2 ∧ Rep K A H y d
  | _, _, k, .nil => .inl ⟨rfl, rfl⟩
  | _, _, k, .cons (k := k') (ka := ka) (v := v) (y := y) (d := d) (xs := xs) (kvs := kvs) h1 h2 h3 h4 h5 r => by
    by_cases e : k' = k
    · refine .inr ⟨(ka, v), d, y, ?_, ?_, h4, h5⟩
      · unfold atKey; rw [List.find?_cons_of_pos (by simp [e])]; rfl
      · unfold dAt; rw [List.find?_cons_of_pos (by simp [e])]; rfl
    · have e1 : atKey ((k', ka, v) :: xs) k = atKey xs k := by unfold atKey; rw [List.find?_cons_of_neg (by simp [e])]
      have e2 : dAt ((k', d) :: kvs) k = dAt kvs k := by unfold dAt; rw [List.find?_cons_of_neg (by simp [e])]
      rw [e1, e2]
      exact RepKV.at k r
theorem RepKV.length : ∀ {xs : List DEnt} {kvs : List (PyData × PyData)}, RepKV K A H xs kvs → xs.length = kvs.length
  | _, _, .nil => rfl
  | _, _, .cons _ _ _ _ _ r => by rw [List.length_cons, List.length_cons, RepKV.length r]
theorem RepKV.append : ∀ {xs ys : List DEnt} {kvs lvs : List (PyData × PyData)}, RepKV K A H xs kvs → RepKV K A H ys lvs → RepKV K A H (xs ++ ys) (kvs ++ lvs)
  | _, _, _, _, .nil, s => s
  | _, _, _, _, .cons h1 h2 h3 h4 h5 r, s => .cons h1 h2 h3 h4 h5 (RepKV.append r s)
theorem RepKV.mapPut {k d : PyData} {y : V} {v : Value} (ry : RelV y v) (rd : Rep K A H y d) : ∀ {xs : List DEnt} {kvs : List (PyData × PyData)}, RepKV K A H xs kvs → RepKV K A H (xs.map (putAt k v)) (kvs.map (fun x => if x.1 = k then (x.1, d) else x))
  | _, _, .nil => .nil
  | _, _, .cons (k := k') (ka := ka) (v := v') (d := d') (xs := xs) (kvs := kvs) h1 h2 h3 h4 h5 r => by
    rw [List.map_cons, List.map_cons]
    by_cases e : k' = k
    · have e1 : putAt k v (k', ka, v') = (k', ka, v) := by unfold putAt; rw [if_pos e]
      have e2 : (if (k', d').1 = k then ((k', d').1, d) else (k', d')) = (k', d) := by rw [if_pos e]
      rw [e1, e2]
      exact .cons h1 h2 h3 ry rd (RepKV.mapPut ry rd r)
    · have e1 : putAt k v (k', ka, v') = (k', ka, v') := by unfold putAt; rw [if_neg e]
      have e2 : (if (k', d').1 = k then ((k', d').1, d) else (k', d')) = (k', d') := by rw [if_neg e]
      rw [e1, e2]
      exact .cons h1 h2 h3 h4 h5 (RepKV.mapPut ry rd r)
theorem RepKV.put {xs : List DEnt} {kvs : List (PyData × PyData)} {k d : PyData} {ka : Addr} {y : V} {v : Value} (r : RepKV K A H xs kvs) (h1 : Rep K A H (.ref ka) k) (h2 : keyB k = true) (h3 : k.depth ≤ 6) (ry : RelV y v) (rd : Rep K A H y d) : RepKV K A H (storedH xs k ka v) (dPut kvs k d) := by
  unfold storedH dPut
  rcases r.at k with ⟨e1, e2⟩ | ⟨p, d', y', e1, e2, _⟩
  · rw [e1, e2]
    exact r.append (.cons h1 h2 h3 ry rd .nil)
  · rw [e1, e2]
    exact r.mapPut ry rd
end
/-! ### in, not in, d[k], d[k] = v -/
section
variable {X : Cx}
theorem in1_room (hu : X.A.units + 64 < cLine) : (keyKindD X.prog X.w).room X.A.in1 := by
  show X.A.in1.units + 16 < cLine
  rw [Around.in1_units]
  lia
noncomputable def rInDict (K : PySem.W.Frag) (neg : Bool) : R2 := fun x y H Q => ∃ a b k xs kvs, x = .ref a ∧ y = .ref b ∧ Rep K (fun _ => True) H (.ref a) k ∧ keyB k = true ∧ k.depth ≤ 6 ∧ DOk H b xs ∧ RepKV K (fun _ => True) H xs kvs ∧ Q (.bl (if neg then !(dAt kvs k).isSome else (dAt kvs k).isSome)) H
theorem at_isSome {K : PySem.W.Frag} {A : Option Addr → Prop} {H : Hp} {xs : List DEnt} {kvs : List (PyData × PyData)} (k : PyData) (r : RepKV K A H xs kvs) : (atKey xs k).isSome = (dAt kvs k).isSome := by
  rcases r.at k with ⟨e1, e2⟩ | ⟨p, d', y', e1, e2, _⟩
  · rw [e1, e2]; rfl
  · rw [e1, e2]; rfl
theorem wpAny_notIn_heap {prog : Program} {w : World} {K : Type} [DecidableEq K] {knd : HeapKind prog w K} {A : Around} {E : Value → Shared → Prop} {s : Shared} {d a : Addr} {k : K} {xs : List (K × Addr × Value)} {Q : Value → Shared → Prop} (hu : knd.room A.in1) (hkey : knd.is s.heap k a) (hd : (d == sysModules) = false) (hm : s.heap.DictOfH knd d xs)
    (h : Q (.bool (!(atKey xs k).isSome)) { s with toks := s.toks + knd.draws k }) : wpAny (model prog w) A (compareOp .NotIn (.ref a) (.ref d)) Q E s := by
  have z := wpAny_in_heap (E := E) (Q := fun v s' => v = .bool (atKey xs k).isSome ∧ s' = { s with toks := s.toks + knd.draws k }) hu hkey hd hm ⟨rfl, rfl⟩
  have z' : wpAny (model prog w) A (contains (.ref d) (.ref a) >>= fun b => pure (Value.bool b)) (fun v s' => v = .bool (atKey xs k).isSome ∧ s' = { s with toks := s.toks + knd.draws k }) E s := z
  show wpAny _ _ (contains (.ref d) (.ref a) >>= fun b => pure (Value.bool (!b))) Q E s
  intro Γ p hΓ
  have z2 := z' Γ p hΓ
  rw [Sem.wp_bind'] at z2 ⊢
  refine Sem.wp_mono _ Γ _ (fun b p' s' h' => ?_) (fun _ _ _ h' => h') p s z2
  rw [Sem.wp_pure'] at h' ⊢
  obtain ⟨e1, e2⟩ := h'
  cases e1
  subst e2
  exact h
theorem op_notIn_dict (hu : X.A.units + 64 < cLine) : OpR X (compareOp .NotIn) (rInDict X.K true) := by
  intro pins s σ H x y v u Q I rx ry h
  obtain ⟨a, b, k, xs, kvs, rfl, rfl, h1, h2, h3, h4, h5, q⟩ := h
  cases rx; cases ry
  refine wpAny_notIn_heap (knd := keyKindD X.prog X.w) (in1_room hu) ⟨h1.krd I h2 rfl, h3⟩ h4.sm (h4.dictOf I h5) ⟨.bl _, H, I.tok _, rfl, ?_⟩
  rw [at_isSome k h5]; exact q
theorem Rep.toDict {K : PySem.W.Frag} {A : Option Addr → Prop} {H : Hp} {v : V} {kvs : List (PyData × PyData)} (h : Rep K A H v (.dict kvs)) : ∃ a xs, v = .ref a ∧ DOk H a xs ∧ A (some a) ∧ RepKV K A H xs kvs := by
  cases h with
  | dct h1 h2 h3 => exact ⟨_, _, rfl, h1, h2, h3⟩
/-- a tuple that may be a key -/
class KeyD (d : PyData) : Prop where
  key : keyB d = true
  dep : d.depth ≤ 6
  tup : ∃ ds, d = .tuple ds
theorem Rep.toKey {K : PySem.W.Frag} {A : Option Addr → Prop} {H : Hp} {v : V} {d : PyData} [k : KeyD d] (h : Rep K A H v d) : ∃ a, v = .ref a := by
  obtain ⟨ds, rfl⟩ := k.tup
  cases h with
  | tup h1 h2 => exact ⟨_, rfl⟩
noncomputable instance cmpNotInD (k : PyData) (kvs : List (PyData × PyData)) [i : KeyD k] : CmpD .NotIn k (.dict kvs) (!(dAt kvs k).isSome) True := ⟨fun _ {X} hu => ⟨_, op_notIn_dict hu, fun x y H Q rx ry q => by
  obtain ⟨a, rfl⟩ := rx.toKey
  obtain ⟨b, xs, rfl, h1, _, h2⟩ := ry.toDict
  exact ⟨a, b, k, xs, kvs, rfl, rfl, rx, i.key, i.dep, h1, h2, q⟩⟩⟩
theorem ix_dict (hu : X.A.units + 64 < cLine) : IxR X (fun x y H Q => ∃ A : Option Addr → Prop, ∃ a b k xs kvs d, x = .ref b ∧ y = .ref a ∧ Rep X.K (fun _ => True) H (.ref a) k ∧ keyB k = true ∧ k.depth ≤ 6 ∧ DOk H b xs ∧ RepKV X.K A H xs kvs ∧ dAt kvs k = some d ∧ ∀ z, Rep X.K A H z d → Q z H) := by
  intro value slice pins s σ H x y v u Q I rx ry h hs
  obtain ⟨A, a, b, k, xs, kvs, d, rfl, rfl, h1, h2, h3, h4, h5, h6, q⟩ := h
  cases rx; cases ry
  have hm := h4.dictOf I h5
  rcases h5.at k with ⟨e1, e2⟩ | ⟨p, d', y', e1, e2, r1, r2⟩
  · rw [h6] at e2; cases e2
  · rw [h6] at e2; cases e2
    exact subscriptTail_builtinR (x := p.2) hm.typeIs PySem.slot_dict_getitem.lookup
      (wpAny_getItem_heap (knd := keyKindD X.prog X.w) (Q := fun r s' => r = p.2 ∧ EP X pins σ Q r s') (in1_room hu) ⟨h1.krd I h2 rfl, h3⟩ hm e1 ⟨rfl, y', H, I.tok _, r1, q _ r2⟩) hs
/-- d[k] = v -/
theorem set_dict (hu : X.A.units + 64 < cLine) : PSet X (fun o i v H Q => ∃ a b k xs kvs, o = .ref b ∧ i = .ref a ∧ Rep X.K (fun _ => False) H (.ref a) k ∧ keyB k = true ∧ k.depth ≤ 6 ∧ DOk H b xs ∧ RepKV X.K (fun _ => False) H xs kvs ∧ kvs.length < 100000 ∧ ∀ w ep, RelV v w → (∃ xs', xs' = storedH xs k a w) → DOk (upd H b (DCell b (storedH xs k a w) ep)) b (storedH xs k a w) → Q (upd H b (DCell b (storedH xs k a w) ep))) := by
  intro pins s σ H o i v ov iv u Q I ro ri rv h
  obtain ⟨a, b, k, xs, kvs, rfl, rfl, h1, h2, h3, h4, h5, h6, q⟩ := h
  cases ro; cases ri
  have hm := h4.dictOf I h5
  refine wpAny_setItem_heap (knd := keyKindD X.prog X.w) (in1_room hu) ⟨h1.krd I h2 rfl, h3⟩ hm (fun h' hd sb => ?_) (Nat.le_trans h4.len big_line)
  have hlen : (storedH xs k a u).length ≤ 100000 := by
    unfold storedH
    split
    · rw [List.length_map]; exact h4.len
    · rw [List.length_append, h5.length]; simp only [List.length_cons, List.length_nil]; lia
  obtain ⟨o, es, ep, g1, g2, g3, g4, g5, g6⟩ := hd
  obtain ⟨ep0, h40⟩ := h4.at'
  refine ⟨_, I.write (x := b) (e := b) (h' := h') (by rw [h40]; trivial) (.inl rfl) (fun c w hc hw => ?_) ⟨o, g1⟩ ?_, q u ep rv ⟨_, rfl⟩ ⟨⟨ep, upd_same⟩, g6, hlen, h4.sm⟩⟩
  · rw [sb.2 c hc]; exact hw
  · exact ⟨⟨o, es, g1, g2, g3, g4⟩, ⟨o, g1⟩, fun z1 z2 ⟨o1, es1, k1, k2, k3, k4⟩ hz => ⟨o1, es1, hz _ k1, k2, k3, k4⟩⟩
end
/-! ### in a body -/
section
variable {K : PySem.W.Frag} {H0 H : Hp} {σ : St} {env : Nv} {own : Own}
theorem exc_ne {a b C : Addr} {ys : List DEnt} {ep : Nat} (h2 : H b = some (excO b C)) (h : H a = some (DCell a ys ep)) : b ≠ a := fun e => by
  subst e
  rw [h2] at h
  have e : ExcAt b C = _ := HO.ext.inj (Option.some.inj h)
  let o : Obj := { cls := .type "dict", data := .dict (ys.map entD).toArray ep }
  let hp : Heap := ⟨Array.replicate (b + 1) o, {}⟩
  have g : hp.get? b = some o := by
    have g1 : hp.objs[b]? = some o := by
      show (Array.replicate (b + 1) o)[b]? = some o
      rw [Array.getElem?_replicate, if_pos (Nat.lt_succ_self _)]
    unfold Heap.get?
    rw [g1]
  have z : ExcAt b C hp := by
    rw [e]
    exact ⟨o, _, g, ⟨rfl, rfl, rfl⟩, rfl, by simp⟩
  obtain ⟨o', vs', g', c', _⟩ := z
  rw [g] at g'
  cases g'
  cases c'
theorem Sta.putD (Z : Sta K H0 H σ env own) {k : Nat} {a : Addr} {ds es : List (PyData × PyData)} {ys zs : List DEnt} {ep ep' : Nat} (ho : own[k]? = some (a, .d ds)) (h : H a = some (DCell a ys ep)) (hd : DOk (upd H a (DCell a zs ep')) a zs) (r : RepKV K (fun _ => False) H zs es) : Sta K H0 (upd H a (DCell a zs ep')) σ env (own.set k (a, .d es)) := by
  have hk : k < own.length := (List.getElem?_eq_some_iff.mp ho).1
  have hek : own[k] = (a, .d ds) := (List.getElem?_eq_some_iff.mp ho).2
  have hfst : (own.set k (a, .d es)).map (·.1) = own.map (·.1) := by
    rw [List.map_set]
    apply List.ext_getElem?
    intro n
    by_cases hn : k = n
    · subst hn
      rw [List.getElem?_set_self (by rw [List.length_map]; exact hk), List.getElem?_map, ho]
      rfl
    · rw [List.getElem?_set_ne hn]
  have hmem : a ∈ own.map (·.1) := List.mem_map.mpr ⟨_, List.mem_of_getElem? ho, rfl⟩
  have h0 := (Z.ow _ (List.mem_of_getElem? ho)).1
  have ext : ∀ {A : Option Addr → Prop}, ¬ A (some a) → Ext K A H (upd H a (DCell a zs ep')) := fun hA => Ext.putD h hA
  have md : ∀ {m : Md} {o : Option Addr}, m.A own H0 H0 o → m.A (own.set k (a, .d es)) H0 H0 o := fun {m o} z => by
    cases m <;> cases o <;> first | exact z | (simp only [Md.A, hfst] at z ⊢; exact z)
  refine ⟨Z.len, fun b o q => ?_, fun j s q => ?_, fun p hp => ?_, by rw [hfst]; exact Z.nd⟩
  · rw [upd_ne (ne_of_none q h0)]
    exact Z.same _ _ q
  · have z := Z.sl j s q
    cases s with
    | d u => obtain ⟨v, h1, h2⟩ := z; exact ⟨v, h1, (h2.mono (ext (A := Md.safe.A own H0 H0) fun w => w hmem)).weak fun o w => md w⟩
    | f u => obtain ⟨v, h1, h2⟩ := z; exact ⟨v, h1, (h2.mono (ext (A := Md.fresh.A own H0 H0) fun w => w.1 hmem)).weak fun o w => md w⟩
    | o n =>
      obtain ⟨b, c, h1, h2⟩ := z
      by_cases hn : k = n
      · subst hn
        rw [ho] at h1
        cases h1
        exact ⟨a, .d es, by rw [List.getElem?_set_self hk], h2⟩
      · exact ⟨b, c, by rw [List.getElem?_set_ne hn]; exact h1, h2⟩
    | x C =>
      obtain ⟨b, h1, h2⟩ := z
      exact ⟨b, h1, by rw [upd_ne (exc_ne h2 h)]; exact h2⟩
  · obtain ⟨n, hn, e⟩ := List.getElem_of_mem hp
    rw [List.length_set] at hn
    by_cases hkn : k = n
    · subst hkn
      rw [List.getElem_set_self] at e
      subst e
      exact ⟨h0, zs, hd, r.mono (ext fun w => w)⟩
    · rw [List.getElem_set_ne hkn] at e
      have hp' : p ∈ own := e ▸ List.getElem_mem hn
      obtain ⟨w1, w2⟩ := Z.ow p hp'
      have ne : p.1 ≠ a := fun q => by
        have e1 : (own.map (·.1))[n]? = some p.1 := by rw [List.getElem?_map, List.getElem?_eq_getElem hn, e]; rfl
        have e2 : (own.map (·.1))[k]? = some a := by rw [List.getElem?_map, ho]; rfl
        rw [q] at e1
        obtain ⟨u1, v1⟩ := List.getElem?_eq_some_iff.mp e1
        obtain ⟨u2, v2⟩ := List.getElem?_eq_some_iff.mp e2
        exact hkn ((List.getElem_inj Z.nd).mp (v2.trans v1.symm))
      refine ⟨w1, ?_⟩
      obtain ⟨b, c⟩ := p
      cases c with
      | l gs =>
        obtain ⟨us, k1, k2⟩ := w2
        exact ⟨us, by rw [upd_ne ne]; exact k1, k2.mono (ext fun w => w)⟩
      | d gs =>
        obtain ⟨us, k1, k2⟩ := w2
        exact ⟨us, k1.up fun ep q => by rw [upd_ne ne]; exact q, k2.mono (ext fun w => w)⟩
      | r gs =>
        obtain ⟨us, k1, k2⟩ := w2
        exact ⟨us, k1.up fun ep q => by rw [upd_ne ne]; exact q, k2.mono (ext fun w => w)⟩
end
section
variable {X : Cx} {m : Md} {env : Nv} {own : Own} {d dk : PyData} {e ke : Expr} {x : Str} {i : Nat} {p kp pos : Pos} {H0 H : Hp} {σ : St} {rest : List Stmt}
/-- x[k], x a dict -/
theorem ev_ixd {ma : Md} {a b : Expr} {kvs : List (PyData × PyData)} (hu : X.A.units + 64 < cLine) (ha : Ev ma X env own a (.dict kvs)) (hb : Ev .any X env own b dk) [k : KeyD dk] [F : Fit ma m d] (hs : dAt kvs dk = some d) (hp : PlainIx b := by exact fun _ _ => rfl) : Ev m X env own (.Subscript a b pos) d :=
  Ev.of (pe_ix (ix_dict hu) ha.h hb.h hp) fun σ H Q ⟨H0, Z, q⟩ => ⟨H0, Z, fun v H1 s1 r1 => ⟨H0, Z.step s1, fun w H2 s2 r2 => by
    obtain ⟨b, xs, rfl, h1, h0, h2⟩ := r1.toDict
    obtain ⟨a, rfl⟩ := r2.toKey
    have h1' : DOk H2 b xs := h1.up fun ep q => s2 _ _ q
    exact ⟨ma.A own H0 H, a, b, dk, xs, kvs, d, rfl, rfl, r2.weak fun _ _ => trivial, k.key, k.dep, h1', h2.mono s2.ext, hs, fun z rz => q z H2 (s1.trans s2) (F.ok Z rz)⟩⟩⟩
/-- x[k] = e, x an owned dict -/
theorem w_setD {D : _} {k : Nat} {a : Addr} {kvs : List (PyData × PyData)} {sp : Pos} (hu : X.A.units + 64 < cLine) (hN : X.N[i]? = some x) (hv : Vis X.env.scope x) (he : env[i]? = some (some (.o k))) (ho : own[k]? = some (a, .d kvs)) (Z : Sta X.K H0 H σ env own) (hd : Ev .imm X env own e d) (hk : Ev .imm X env own ke dk) [kd : KeyD dk] (kk : ∀ H', Sta X.K H0 H' σ env (own.set k (a, .d (dPut kvs dk d))) → W X D rest σ H') (hlen : kvs.length < 100000)
    (hs : swapsWithSole [.Subscript (.Name x p) ke sp] e pos.line X.env = pure false := by rfl) (hw : swappedStores [.Subscript (.Name x p) ke sp] e X.env = pure none := by rfl)
    (h1 : (assignEach [.Subscript (.Name x p) ke sp] X.env).map (·.2) = [assign (.Subscript (.Name x p) ke sp) X.env] := by rfl)
    (ha : ∀ v, assign (.Subscript (.Name x p) ke sp) X.env v = (do
      let ov ← holding [v] (eval (.Name x p) X.env)
      let iv ← holding [v, ov] (eval ke X.env)
      standAt sp
      holding [v, ov, iv] (setItem ov iv v)
      release [v, ov, iv] []) := by intro _; rfl) (hdb : (x == ("__debug__" : Str)) = false := by decide) (hcd : (x == ("__classdict__" : Str)) = false := by decide) :
    W X D (.Assign [.Subscript (.Name x p) ke sp] e pos :: rest) σ H := by
  refine W.cons (ps_asg hd.h (pg_sub (pe_var hN hv hdb hcd) hk.h (set_dict hu) ha) hs hw h1) ?_
  obtain ⟨b, c, z1, z2⟩ := Z.sl i _ he
  rw [ho] at z1
  cases z1
  obtain ⟨z3, xs, z4, z5⟩ := Z.ow _ (List.mem_of_getElem? ho)
  refine ⟨H0, Z, fun v H1 s1 r1 => ⟨_, z2, H0, Z.step s1, fun kv H2 s2 r2 => ?_⟩⟩
  have Z2 := (Z.step s1).step s2
  have s3 := s1.trans s2
  obtain ⟨ka, rfl⟩ := r2.toKey
  have z4' : DOk H2 a xs := z4.up fun ep q => s3 _ _ q
  have z5' := z5.mono s3.ext
  have r1' : Rep X.K (fun _ => False) H2 v d := (r1.mono s2.ext).weak fun o z => by cases o <;> exact z
  have r2' : Rep X.K (fun _ => False) H2 (.ref ka) dk := r2.weak fun o z => by cases o <;> exact z
  refine ⟨ka, a, dk, xs, kvs, rfl, rfl, r2', kd.key, kd.dep, z4', z5', hlen, fun w ep rw' _ hD => ?_⟩
  obtain ⟨ep0, z40⟩ := z4'.at'
  exact kk _ (Z2.putD ho z40 hD (z5'.put r2' kd.key kd.dep rw' r1'))
end
end L2

set_option Elab.async false
set_option linter.all false
set_option maxRecDepth 100000
set_option maxHeartbeats 4000000
/-! in a list of data; count of a sign in a text -/
namespace L2
open PySem PySem.Spec PyProof.Rows
section
variable {X : Cx}
noncomputable def rInL (K : PySem.W.Frag) (neg : Bool) : R2 := fun x y H Q => ∃ d xs, Dat K H x d ∧ Dat K H y (.list xs) ∧ d.canLay0 = true ∧ PyData.canLayAll0 xs = true ∧ d.depth ≤ 60 ∧ Q (.bl (if neg then !(xs.any fun y => PyData.eqv y d) else (xs.any fun y => PyData.eqv y d))) H
theorem op_notInL (hu : X.A.units + 64 < cLine) : OpR X (compareOp .NotIn) (rInL X.K true) := by
  intro pins s σ H x y v u Q I rx ry h
  obtain ⟨d, xs, h1, h2, h3, h4, h5, q⟩ := h
  obtain ⟨as, ra⟩ := h1.reads I rx
  obtain ⟨bs, rb⟩ := h2.reads I ry
  have h6 : min (PyData.depthAll xs) d.depth ≤ d.depth := Nat.min_le_right _ _
  exact SeqAt.notIn_list_reads rb ra h4 h3 (by lia) ⟨.bl _, H, I, rfl, q⟩
end
noncomputable instance (priority := low) cmpNotInL (d : PyData) (xs : List PyData) [h : Shp 9 d] [t : ShpL 9 xs] : CmpD .NotIn d (.list xs) (!(xs.any fun y => PyData.eqv y d)) True := ⟨fun _ {X} hu => ⟨_, op_notInL hu, fun x y H Q rx ry q => ⟨d, xs, rx.dat0 (lay_nodict h.lay), ry.dat0 (lays_nodict t.lay), h.lay, t.lay, Nat.le_trans h.dep (by decide), q⟩⟩⟩
/-! ### where a sign stands -/
/-! ### a sign in a text -/
/-! ### sum, of ints -/
theorem vals_intAt : ∀ {ns : List Int} {us : List Value}, Vals (ns.map V.int) us → ∀ (i : Nat) (v : Value), us[i]? = some v → ∃ t, v = Value.int (ns.getD i 0) t
  | [], _, .nil, i, v, h => by simp at h
  | n :: r, _, .cons h t, 0, v, e => by
    obtain ⟨k, rfl⟩ := (show ∃ t, _ = Value.int n t from h)
    simp at e
    exact ⟨k, e.symm⟩
  | n :: r, _, .cons h t, i + 1, v, e => by
    have := vals_intAt t i v (by simpa using e)
    simpa using this
end L2

set_option Elab.async false
set_option linter.all false
set_option maxRecDepth 100000
set_option maxHeartbeats 4000000
/-! Dicts made and owned -/
namespace L2
open PySem PySem.Spec PyProof.Rows
section
variable {X : Cx}
/-- {k: v} -/
noncomputable def tDict1 (K : PySem.W.Frag) (tk tv : TE) : TE := fun σ H Q => ∀ l, H l = none → (l == sysModules) = false → tk σ (upd H l (DCell l [] 0)) fun kx H1 => tv σ H1 fun vx H2 => ∃ a k, kx = .ref a ∧ Rep K (fun _ => False) H2 (.ref a) k ∧ keyB k = true ∧ k.depth ≤ 6 ∧ H2 l = some (DCell l [] 0) ∧ ∀ w ep, RelV vx w → DOk (upd H2 l (DCell l [(k, a, w)] ep)) l [(k, a, w)] → Q (.ref l) (upd H2 l (DCell l [(k, a, w)] ep))
theorem pe_dict1 {ke ve : Expr} {pos : Pos} {tk tv : TE} (hu : X.A.units + 64 < cLine) (hk : PE X ke tk) (hv : PE X ve tv) : PE X (.Dict [some ke] [ve] pos) (tDict1 X.K tk tv) := by
  intro pins s σ H Q I h
  refine wpAny_Dict_any rfl rfl (by simp) (Nat.le_of_ble_eq_true rfl) ?_
  have hsm : (s.heap.objs.size == sysModules) = false := by
    obtain ⟨o, es, ep, e, _⟩ := I.ok.mod.glob
    have h1 := Heap.lt_size (I.bk _ _ e)
    have h2 : 1 ≤ mainGlobals := by decide
    have h3 : s.heap.objs.size ≠ 1 := Nat.ne_of_gt (Nat.lt_of_le_of_lt h2 h1)
    exact beq_eq_false_iff_ne.mpr h3
  have g0 := Heap.get?_push_size s.heap (o := { cls := .type "dict", data := .dict #[] }) rfl
  have I0 : Inv X pins σ (upd H s.heap.objs.size (DCell s.heap.objs.size [] 0)) { s with heap := s.heap.push { cls := .type "dict", data := .dict #[] } } :=
    I.laid (t' := s.toks) (fun b u q => Heap.get?_push_of_some _ q) (Nat.le_refl _) ⟨⟨_, _, g0, ⟨rfl, rfl, rfl⟩, rfl, rfl⟩, ⟨_, g0⟩, fun z1 z2 ⟨o1, es1, k1, k2, k3, k4⟩ hz => ⟨o1, es1, hz _ k1, k2, k3, k4⟩⟩
  have h1 := h s.heap.objs.size (I.hok.fresh (Nat.le_refl _)) hsm
  refine evalPairs_cons ?_
  refine wpAny_mono (hk pins _ σ _ _ I0 h1) (fun kv s1 ⟨kx, H1, I1, rk, q1⟩ => ?_) fun _ _ e => e
  refine wpAny_bind ?_
  refine wpAny_mono (hv pins _ σ _ _ I1 q1) (fun vv s2 ⟨vx, H2, I2, rv, q2⟩ => ?_) fun _ _ e => e
  refine wpAny_bind (wpAny_standAt (wpAny_pure ?_))
  refine evalPairs_nil ?_
  obtain ⟨a, k, rfl, z1, z2, z3, z4, z5⟩ := q2
  cases rk
  have hm : Heap.DictOfH (keyKindD X.prog X.w) s2.heap s.heap.objs.size [] := by
    obtain ⟨⟨o, es, e1, e2, e3, e4⟩, _⟩ := I2.hok _ _ z4
    exact ⟨o, es, 0, e1, e2, e3, e4, (fun x hx => by cases hx), List.nodup_nil⟩
  unfold storeAll
  rw [List.forIn_cons]
  refine wpAny_bind (wpAny_bind (wpAny_dictSet_heap (knd := keyKindD X.prog X.w) (show X.A.units + 16 < cLine by lia) ⟨z1.krd I2 z2 rfl, z3⟩ hm (fun h' hd sb => ?_) (Nat.zero_le _)))
  refine wpAny_pure ?_
  show wpAny _ _ (forIn [] _ _) _ _ _
  rw [List.forIn_nil]
  obtain ⟨o, es, ep, g1, g2, g3, g4, g5, g6⟩ := hd
  refine wpAny_pure ⟨.ref s.heap.objs.size, _, I2.write (x := s.heap.objs.size) (e := s.heap.objs.size) (h' := h') (by rw [z4]; trivial) (.inl rfl) (fun c w hc hw => by rw [sb.2 c hc]; exact hw) ⟨o, g1⟩ ?_, rfl, z5 vv ep rv ⟨⟨ep, upd_same⟩, g6, Nat.le_of_ble_eq_true rfl, hsm⟩⟩
  exact ⟨⟨o, es, g1, g2, g3, g4⟩, ⟨o, g1⟩, fun z1 z2 ⟨o1, es1, k1, k2, k3, k4⟩ hz => ⟨o1, es1, hz _ k1, k2, k3, k4⟩⟩
/-- {} -/
noncomputable def tDict0 : TE := fun σ H Q => ∀ l, H l = none → (l == sysModules) = false → Q (.ref l) (upd H l (DCell l [] 0))
theorem pe_dict0 {pos : Pos} : PE X (.Dict [] [] pos) tDict0 := by
  intro pins s σ H Q I h
  rw [eval_Dict_empty]
  have hsm : (s.heap.objs.size == sysModules) = false := by
    obtain ⟨o, es, ep, e, _⟩ := I.ok.mod.glob
    have h1 := Heap.lt_size (I.bk _ _ e)
    have h2 : 1 ≤ mainGlobals := by decide
    exact beq_eq_false_iff_ne.mpr (Nat.ne_of_gt (Nat.lt_of_le_of_lt h2 h1))
  have g0 := Heap.get?_push_size s.heap (o := { cls := .type "dict", data := .dict #[] }) rfl
  have I0 : Inv X pins σ (upd H s.heap.objs.size (DCell s.heap.objs.size [] 0)) { s with heap := s.heap.push { cls := .type "dict", data := .dict #[] } } :=
    I.laid (t' := s.toks) (fun b u q => Heap.get?_push_of_some _ q) (Nat.le_refl _) ⟨⟨_, _, g0, ⟨rfl, rfl, rfl⟩, rfl, rfl⟩, ⟨_, g0⟩, fun z1 z2 ⟨o1, es1, k1, k2, k3, k4⟩ hz => ⟨o1, es1, hz _ k1, k2, k3, k4⟩⟩
  refine wpAny_bind (wpAny_standAt ?_)
  unfold newDict
  refine wpAny_bind (wpAny_alloc (wpAny_pure ?_))
  exact ⟨.ref s.heap.objs.size, _, I0, rfl, h _ (I.hok.fresh (Nat.le_refl _)) hsm⟩
end
section
variable {X : Cx} {m : Md} {env : Nv} {own : Own} {d dk : PyData} {e ke : Expr} {x : Str} {i : Nat} {p kp pos px : Pos} {H0 H : Hp} {σ : St} {rest : List Stmt}
theorem ev_dict0 (hm : m ≠ .imm := by decide) : Ev m X env own (.Dict [] [] pos) (.dict []) :=
  Ev.of pe_dict0 fun σ H Q ⟨H0, Z, q⟩ => fun l hl hsm => q _ _ (same_new hl _) (.dct ⟨⟨0, upd_same⟩, List.nodup_nil, Nat.zero_le _, hsm⟩ (Z.newA hl hm) .nil)
theorem ev_dict1 (hu : X.A.units + 64 < cLine) (hk : Ev .imm X env own ke dk) (hv : Ev .imm X env own e d) [kd : KeyD dk] (hm : m ≠ .imm := by decide) : Ev m X env own (.Dict [some ke] [e] pos) (.dict [(dk, d)]) :=
  Ev.of (pe_dict1 hu hk.h hv.h) fun σ H Q ⟨H0, Z, q⟩ => fun l hl hsm => by
    have s0 : Same H (upd H l (DCell l [] 0)) := same_new hl _
    refine ⟨H0, Z.step s0, fun kx H1 s1 r1 => ⟨H0, (Z.step s0).step s1, fun vx H2 s2 r2 => ?_⟩⟩
    obtain ⟨a, rfl⟩ := r1.toKey
    have r1' : Rep X.K (fun _ => False) H2 (.ref a) dk := (r1.mono s2.ext).weak fun o z => by cases o <;> exact z
    have r2' : Rep X.K (fun _ => False) H2 vx d := r2.weak fun o z => by cases o <;> exact z
    have hl2 : H2 l = some (DCell l [] 0) := s2 _ _ (s1 _ _ upd_same)
    refine ⟨a, dk, rfl, r1', kd.key, kd.dep, hl2, fun w ep rw' hD => ?_⟩
    have ext : Ext X.K (fun _ => False) H2 (upd H2 l (DCell l [(dk, a, w)] ep)) := Ext.putD hl2 (fun z => z)
    have sm : Same H (upd H2 l (DCell l [(dk, a, w)] ep)) := fun b o hb => by
      have ne : b ≠ l := fun z => by rw [z, hl] at hb; cases hb
      rw [upd_ne ne]
      exact s2 _ _ (s1 _ _ (s0 _ _ hb))
    exact q _ _ sm (.dct hD (Z.newA hl hm) (.cons ((r1'.mono ext).weak fun _ z => z.elim) kd.key kd.dep rw' ((r2'.mono ext).weak fun _ z => z.elim) .nil))
end
end L2

set_option Elab.async false
set_option linter.all false
set_option maxRecDepth 100000
set_option maxHeartbeats 4000000
/-! Dicts owned, handed back; their keys as a list; cleared -/
namespace L2
open PySem PySem.Spec PyProof.Rows
mutual
theorem key_imm : ∀ {d : PyData}, keyB d = true → immB d = true
  | .int _, _ => rfl
  | .tuple ds, h => keys_imm (ds := ds) h
  | .none, h => by cases h
  | .bool _, h => by cases h
  | .str _, h => by cases h
  | .list _, h => by cases h
  | .dict _, h => by cases h
theorem keys_imm : ∀ {ds : List PyData}, keyBs ds = true → immAll ds = true
  | [], _ => rfl
  | d :: r, h => by
    have h' : (keyB d && keyBs r) = true := h
    rw [Bool.and_eq_true] at h'
    show (immB d && immAll r) = true
    rw [key_imm h'.1, keys_imm h'.2]
    rfl
end
class ImmKV (kvs : List (PyData × PyData)) : Prop where
  ok : ∀ p ∈ kvs, immB p.2 = true
noncomputable instance immKVnil : ImmKV [] := ⟨fun p h => by cases h⟩
noncomputable instance immKVcons (k d : PyData) (r : List (PyData × PyData)) [h : Imm d] [t : ImmKV r] : ImmKV ((k, d) :: r) := ⟨fun p hp => by
  rcases List.mem_cons.mp hp with e | hp
  · subst e; exact h.ok
  · exact t.ok p hp⟩
noncomputable instance immKVmap {α : Type} (f g : α → PyData) (xs : List α) [h : ∀ a, Imm (g a)] : ImmKV (xs.map fun a => (f a, g a)) := ⟨fun p hp => by
  obtain ⟨a, _, rfl⟩ := List.mem_map.mp hp
  exact (h a).ok⟩
theorem RepKV.imm0 {K : PySem.W.Frag} {A B : Option Addr → Prop} {H : Hp} : ∀ {xs : List DEnt} {kvs : List (PyData × PyData)}, RepKV K A H xs kvs → (∀ p ∈ kvs, immB p.2 = true) → RepKV K B H xs kvs
  | _, _, .nil, _ => .nil
  | _, _, .cons h1 h2 h3 h4 h5 r, hi => .cons (h1.imm0 (key_imm h2)) h2 h3 h4 (h5.imm0 (hi _ List.mem_cons_self)) (RepKV.imm0 r fun p hp => hi p (List.mem_cons_of_mem _ hp))
section
variable {K : PySem.W.Frag} {H0 H : Hp} {σ : St} {env : Nv} {own : Own}
/-- a new dict becomes owned -/
theorem Sta.takeD (Z : Sta K H0 H σ env own) (i : Nat) {v : V} {kvs : List (PyData × PyData)} {H1 : Hp} (hs : ∀ o, L2.newA H1 o → Md.A .fresh own H0 H o) (old : ∀ (j : Nat) (s : Sl), env[j]? = some (some s) → SlOk K H0 H1 own σ[j]? s) (e : Same H1 H) [im : ImmKV kvs] (r : Rep K (L2.newA H1) H v (.dict kvs)) :
    ∃ a, Sta K H0 H (σ.set i (some v)) (env.set i (some (.o own.length))) (own ++ [(a, .d kvs)]) := by
  obtain ⟨a, xs, rfl, h1, hn, h2⟩ := r.toDict
  have hf := hs (some a) hn
  refine ⟨a, by rw [List.length_set, List.length_set]; exact Z.len, Z.same, fun j s' q => ?_, fun p hp => ?_, ?_⟩
  · by_cases hj : i = j
    · subst hj
      by_cases hl : i < env.length
      · rw [List.getElem?_set_self hl] at q
        cases q
        rw [List.getElem?_set_self (by rw [← Z.len]; exact hl)]
        exact ⟨a, .d kvs, by simp, rfl⟩
      · rw [List.getElem?_eq_none (by rw [List.length_set]; lia)] at q
        cases q
    · rw [List.getElem?_set_ne hj] at q ⊢
      have w := old j s' q
      have up : ∀ {m : Md} {v : V} {d : PyData}, (∀ b, b ≠ a → m.A own H0 H0 (some b) → m.A (own ++ [(a, Ow.d kvs)]) H0 H0 (some b)) → (m.A own H0 H0 none → m.A (own ++ [(a, Ow.d kvs)]) H0 H0 none) → Rep K (m.A own H0 H0) H1 v d → Rep K (m.A (own ++ [(a, Ow.d kvs)]) H0 H0) H v d := fun {m v d} hb h0 r => by
        have r2 : Rep K (fun o => m.A own H0 H0 o ∧ o ≠ some a) H1 v d := r.avoid hn
        exact (r2.mono e.ext).weak fun o z => by
          cases o with
          | none => exact h0 z.1
          | some b => exact hb b (fun q => z.2 (by rw [q])) z.1
      have mem : ∀ b, b ≠ a → b ∉ own.map (·.1) → b ∉ (own ++ [(a, Ow.d kvs)]).map (·.1) := fun b hb hm hq => by
        rw [List.map_append, List.mem_append] at hq
        rcases hq with hq | hq
        · exact hm hq
        · exact hb (by simpa using hq)
      cases s' with
      | d x => obtain ⟨u, k1, k2⟩ := w; exact ⟨u, k1, up (m := .safe) mem (fun z => z) k2⟩
      | f x => obtain ⟨u, k1, k2⟩ := w; exact ⟨u, k1, up (m := .fresh) (fun b hb z => ⟨mem b hb z.1, z.2⟩) (fun z => z) k2⟩
      | o k => obtain ⟨b, c, k1, k2⟩ := w; exact ⟨b, c, by rw [List.getElem?_append_left (List.getElem?_eq_some_iff.mp k1).1]; exact k1, k2⟩
      | x C => obtain ⟨b, k1, k2⟩ := w; exact ⟨b, k1, e _ _ k2⟩
  · rcases List.mem_append.mp hp with hp | hp
    · exact Z.ow p hp
    · have e2 : p = (a, Ow.d kvs) := by simpa using hp
      subst e2
      exact ⟨hf.2, xs, h1, h2.imm0 im.ok⟩
  · rw [List.map_append]
    refine List.nodup_append.mpr ⟨Z.nd, by simp, fun b hb c hc q => ?_⟩
    have e3 : c = a := by simpa using hc
    subst e3
    subst q
    exact hf.1 hb
end
section
variable {X : Cx} {D : Ends} {m : Md} {env : Nv} {own : Own} {d dk : PyData} {e ke : Expr} {x : Str} {i : Nat} {p kp pos px : Pos} {H0 H : Hp} {σ : St} {rest : List Stmt}
theorem w_ownD {kvs : List (PyData × PyData)} [ImmKV kvs] (hN : X.N.Nodup) (hi : X.N[i]? = some x) (hx : Loc X.env.scope x) (Z : Sta X.K H0 H σ env own) (he : Ev .new X env own e (.dict kvs)) (k : ∀ a σ' H', Sta X.K H0 H' σ' (env.set i (some (.o own.length))) (own ++ [(a, .d kvs)]) → W X D rest σ' H')
    (hs : swapsWith e (some (.Name x px)) pos.line X.env = pure false := by rfl) (hf : X.fn x = true ∨ X.env.scope.names.lookup x = some .local := by first | exact .inl rfl | exact .inr rfl | assumption) : W X D (.Assign [.Name x px] e pos :: rest) σ H :=
  w_setM hN hi hx Z he (fun v H1 s1 Z1 r1 => by
    obtain ⟨a, Z2⟩ := Z1.takeD i (v := v) (H1 := H) (fun o z => by cases o with | none => exact z.elim | some b => exact ⟨Z.notown z, same_none Z.same z⟩) Z.sl s1 (r1.weak fun o z => by cases o <;> exact z)
    exact k a _ H1 Z2) hs hf
/-- return x, x an owned dict -/
theorem w_retD {E : XK} {k : Nat} {a : Addr} {kvs : List (PyData × PyData)} {d' : PyData} {p2 : Pos} (Z : Sta X.K H0 H σ env own) (q : Fin X.K H0 D.rt E (.ok d')) (hN : X.N[i]? = some x) (hv : Vis X.env.scope x) (he : env[i]? = some (some (.o k))) (ho : own[k]? = some (a, .d kvs)) (h : (.dict kvs : PyData) = d')
    (hd : (x == ("__debug__" : Str)) = false := by decide) (hcd : (x == ("__classdict__" : Str)) = false := by decide) : W X D (.Return (some (.Name x p2)) pos :: rest) σ H :=
  W.cons (ps_ret (pe_var hN hv hd hcd)) (by
    subst h
    obtain ⟨b, c, h1, h2⟩ := Z.sl i _ he
    rw [ho] at h1
    cases h1
    obtain ⟨h3, ys, h4, h5⟩ := Z.ow _ (List.mem_of_getElem? ho)
    exact ⟨_, h2, q _ H Z.same (.dct h4 h3 (h5.weak fun _ z => z.elim))⟩)
end
/-! ### which data are keys -/
class KeyN (n : Nat) (d : PyData) : Prop where
  key : keyB d = true
  dep : d.depth ≤ n
class KeyNL (n : Nat) (ds : List PyData) : Prop where
  key : keyBs ds = true
  dep : PyData.depthAll ds ≤ n
noncomputable instance keyNI (n : Nat) (i : Int) : KeyN n (.int i) := ⟨rfl, Nat.zero_le _⟩
noncomputable instance keyNT (n : Nat) (ds : List PyData) [h : KeyNL n ds] : KeyN (n + 1) (.tuple ds) := ⟨h.key, Nat.succ_le_succ h.dep⟩
noncomputable instance keyNnil (n : Nat) : KeyNL n [] := ⟨rfl, Nat.zero_le _⟩
noncomputable instance keyNcons (n : Nat) (d : PyData) (ds : List PyData) [h : KeyN n d] [t : KeyNL n ds] : KeyNL n (d :: ds) := ⟨by show (keyB d && keyBs ds) = true; rw [h.key, t.key]; rfl, Nat.max_le.mpr ⟨h.dep, t.dep⟩⟩
theorem keyN_map {α : Type} {n : Nat} {f : α → PyData} (h : ∀ a, KeyN n (f a)) : ∀ xs : List α, KeyNL n (xs.map f)
  | [] => keyNnil n
  | x :: r => @keyNcons n (f x) (r.map f) (h x) (keyN_map h r)
noncomputable instance keyNmap {α : Type} (n : Nat) (f : α → PyData) (xs : List α) [h : ∀ a, KeyN n (f a)] : KeyNL n (xs.map f) := keyN_map h xs
noncomputable instance keyDT (ds : List PyData) [h : KeyNL 5 ds] : KeyD (.tuple ds) := ⟨h.key, Nat.succ_le_succ h.dep, ⟨ds, rfl⟩⟩
example (a b : Int) (l : List Int) : KeyD (.tuple [.tuple [.int a, .int b], .tuple (l.map .int)]) := inferInstance
/-! ### dicts by plain lists -/
section
variable {κ β : Type} [DecidableEq κ] {f : κ → PyData} {g : β → PyData}
noncomputable def lookP (m : List (κ × β)) (k : κ) : Option β := (m.find? fun p => decide (p.1 = k)).map (·.2)
noncomputable def putP (m : List (κ × β)) (k : κ) (b : β) : List (κ × β) := if (lookP m k).isSome then m.map (fun p => if p.1 = k then (p.1, b) else p) else m ++ [(k, b)]
theorem dAt_map (hf : ∀ a b, f a = f b → a = b) (k : κ) : ∀ m : List (κ × β), dAt (m.map fun p => (f p.1, g p.2)) (f k) = (lookP m k).map g
  | [] => rfl
  | (a, b) :: r => by
    rw [List.map_cons]
    by_cases e : a = k
    · unfold dAt lookP
      rw [List.find?_cons_of_pos (by simp [e]), List.find?_cons_of_pos (by simp [e])]
      rfl
    · have e' : f a ≠ f k := fun z => e (hf _ _ z)
      have e1 : dAt ((f a, g b) :: r.map fun p => (f p.1, g p.2)) (f k) = dAt (r.map fun p => (f p.1, g p.2)) (f k) := by unfold dAt; rw [List.find?_cons_of_neg (by simp [e'])]
      have e2 : lookP ((a, b) :: r) k = lookP r k := by unfold lookP; rw [List.find?_cons_of_neg (by simp [e])]
      rw [e1, e2]
      exact dAt_map hf k r
theorem dPut_map (hf : ∀ a b, f a = f b → a = b) (k : κ) (b : β) (m : List (κ × β)) : dPut (m.map fun p => (f p.1, g p.2)) (f k) (g b) = (putP m k b).map fun p => (f p.1, g p.2) := by
  unfold dPut putP
  rw [dAt_map hf]
  have e : ((lookP m k).map g).isSome = (lookP m k).isSome := by cases lookP m k <;> rfl
  rw [e]
  split
  · rw [List.map_map, List.map_map]
    apply List.map_congr_left
    intro p hp
    show (if f p.1 = f k then (f p.1, g b) else (f p.1, g p.2)) = _
    by_cases h : p.1 = k
    · show _ = ((f (if p.1 = k then (p.1, b) else p).1), g (if p.1 = k then (p.1, b) else p).2)
      rw [if_pos h, if_pos (by rw [h])]
    · show _ = ((f (if p.1 = k then (p.1, b) else p).1), g (if p.1 = k then (p.1, b) else p).2)
      rw [if_neg h, if_neg (fun z => h (hf _ _ z))]
  · rw [List.map_append]
    rfl
end
end L2

set_option Elab.async false
set_option linter.all false
set_option maxRecDepth 100000
set_option maxHeartbeats 4000000
/-! Dicts by their entries: how many, one key after another, the list of the keys -/
namespace L2
open PySem PySem.Spec PyProof.Rows
noncomputable def RawD (h : Heap) (d : Addr) (es : Array DictEntry) (ep : Nat) : Prop := ∃ o, h.get? d = some o ∧ o.ExactDict ∧ o.data = .dict es ep
section
variable {prog : Program} {w : World} {A : Around} {E : Value → Shared → Prop} {s : Shared} {d it : Addr} {es : Array DictEntry} {ep i : Nat}
theorem RawD.type (h : RawD s.heap d es ep) : s.TypeIs (.ref d) "dict" := let ⟨o, e, c, _⟩ := h; ⟨o, e, c.1⟩
theorem RawD.keep {h h' : Heap} (x : RawD h d es ep) (k : ∀ o, h.get? d = some o → h'.get? d = some o) : RawD h' d es ep := let ⟨o, e, r⟩ := x; ⟨o, k _ e, r⟩
/-- the walk begins -/
theorem raw_iter {Q : Value → Shared → Prop} (hs : (d == sysModules) = false) (hd : RawD s.heap d es ep)
    (h : Q (.ref s.heap.objs.size) { s with heap := s.heap.push { cls := .type "dict_keyiterator", data := .fields #[.ref d, .int 0 0, .int es.size 0, .int ep 0] } }) : wpAny (model prog w) A (pyIter (.ref d)) Q E s := by
  obtain ⟨o, e1, e2, e3⟩ := id hd
  refine wpAny_pyIter_slot hd.type F.slot_dict_iter (wpAny_call_entry F.slot_dict_iter hd.type F.entry_dict_iter ?_ (F.args_dict_iter_1 _))
  unfold Builtin.«dict.__iter__»
  refine wpAny_bind ?_
  unfold Builtin.Dict.dictSlotNone
  refine wpAny_bind (wpAny_notOrdered_dict hd.type ?_)
  refine wpAny_pure ?_
  show wpAny _ _ (Builtin.Dict.showsAll d >>= _) _ _ s
  unfold Builtin.Dict.showsAll
  rw [if_neg (by rw [hs]; exact Bool.false_ne_true)]
  refine wpAny_bind (wpAny_pure (wpAny_bind (wpAny_dictEntries e1 e3 (wpAny_bind (wpAny_dictEpoch e1 e3 ?_)))))
  refine wpAny_bind (wpAny_newObj_type (wpAny_pure ⟨_, rfl, "dict_keyiterator", _, ⟨_, Heap.get?_push_size _ rfl, rfl⟩, F.slot_dict_keyiterator_next.lookup, ?_⟩))
  simpa [rawInt] using h
theorem raw_next {Q : Option Value → Shared → Prop} (hit : s.heap.IsKeyIter it d i es.size ep) (hd : RawD s.heap d es ep) (hi : i < es.size)
    (h : ∀ h', h'.IsKeyIter it d (i + 1) es.size ep → Heap.SameBut it s.heap h' → Q (some es[i].key) { s with heap := h' }) : wpAny (model prog w) A (pyNext (.ref it)) Q E s := by
  obtain ⟨o, o1, o2, o3⟩ := id hit
  obtain ⟨od, e1, e2, e3⟩ := id hd
  unfold pyNext
  refine wpAny_bind (wpAny_attempt (wpAny_callSpecial?_slot (name := Str.ofString "__next__") hit.typeIs F.slot_dict_keyiterator_next
    (wpAny_call_entry F.slot_dict_keyiterator_next hit.typeIs F.entry_dict_keyiterator_next ?_ (F.args_dict_keyiterator_next_1 _))))
  refine wpAny_bind (wpAny_pure (wpAny_bind (wpAny_bind ?_)))
  first | refine wpAny_bind (wpAny_typeNameOfWhole_keyiter hit.typeIs (wpAny_pure ?_)) | refine wpAny_bind (wpAny_typeNameOf_keyiter hit.typeIs (wpAny_pure ?_))
  refine wpAny_bind (wpAny_fieldsOf o1 o3 ?_)
  simp only [show Builtin.Dict_items.ownsTuple "dict_keyiterator" = false from by decide, Bool.false_eq_true, if_false]
  show wpAny _ _ (if (Value.ref d == Value.none) = true then _ else _) _ _ s
  rw [if_neg (show ¬ ((Value.ref d == Value.none) = true) from Bool.false_ne_true)]
  refine wpAny_bind (wpAny_pure (wpAny_bind (wpAny_dictEntries e1 e3 ?_)))
  rw [if_neg (by simp)]
  refine wpAny_bind (wpAny_pure (wpAny_bind (wpAny_dictEpoch e1 e3 ?_)))
  rw [if_neg (by simp)]
  refine wpAny_pure ?_
  simp only [show ¬ ((i : Int) < 0) from by lia, if_false, Int.toNat_natCast, Array.getElem?_eq_getElem hi]
  refine wpAny_bind ?_
  first | refine wpAny_bind (wpAny_typeNameOfWhole_keyiter hit.typeIs (wpAny_pure ?_)) | refine wpAny_bind (wpAny_typeNameOf_keyiter hit.typeIs (wpAny_pure ?_))
  refine wpAny_bind (wpAny_isOneOf_keyiter hit.typeIs ?_)
  show wpAny _ _ (setField (.ref it) 1 (rawInt ((i : Int) + 1)) >>= _) _ _ s
  refine wpAny_bind (wpAny_setField o1 o3 (by simp) ?_)
  have hit' : (s.heap.update it (Obj.mapFields (·.setIfInBounds 1 (rawInt ((i : Int) + 1))))).IsKeyIter it d (i + 1) es.size ep :=
    ⟨_, Heap.get?_update_self _ o1 (Obj.isFreed_of_fields (Obj.data_mapFields o3 _)), (Obj.cls_mapFields ..).trans o2, by rw [Obj.data_mapFields o3]; simp [rawInt]⟩
  refine wpAny_bind (wpAny_holding ?_)
  refine wpAny_bind (wpAny_isOneOf_keyiter (s := { s with heap := s.heap.update it (Obj.mapFields (·.setIfInBounds 1 (rawInt ((i : Int) + 1)))) }) hit'.typeIs ?_)
  show wpAny _ _ (pure es[i].key) _ _ _
  exact wpAny_pure (wpAny_pure ⟨_, rfl, wpAny_pure (h _ hit' (Heap.SameBut.update ..))⟩)
theorem raw_end {Q : Option Value → Shared → Prop} (hh : A.handled = none) (hit : s.heap.IsKeyIter it d es.size es.size ep) (hd : RawD s.heap d es ep)
    (h : ∀ h', Heap.ExtBut it s.heap h' → Q none { s with heap := h' }) : wpAny (model prog w) A (pyNext (.ref it)) Q E s := by
  obtain ⟨o, o1, o2, o3⟩ := id hit
  obtain ⟨od, e1, e2, e3⟩ := id hd
  unfold pyNext
  refine wpAny_bind (wpAny_attempt (wpAny_callSpecial?_slot (name := Str.ofString "__next__") hit.typeIs F.slot_dict_keyiterator_next
    (wpAny_call_entry F.slot_dict_keyiterator_next hit.typeIs F.entry_dict_keyiterator_next ?_ (F.args_dict_keyiterator_next_1 _))))
  refine wpAny_bind (wpAny_pure (wpAny_bind (wpAny_bind ?_)))
  first | refine wpAny_bind (wpAny_typeNameOfWhole_keyiter hit.typeIs (wpAny_pure ?_)) | refine wpAny_bind (wpAny_typeNameOf_keyiter hit.typeIs (wpAny_pure ?_))
  refine wpAny_bind (wpAny_fieldsOf o1 o3 ?_)
  simp only [show Builtin.Dict_items.ownsTuple "dict_keyiterator" = false from by decide, Bool.false_eq_true, if_false]
  show wpAny _ _ (if (Value.ref d == Value.none) = true then _ else _) _ _ s
  rw [if_neg (show ¬ ((Value.ref d == Value.none) = true) from Bool.false_ne_true)]
  refine wpAny_bind (wpAny_pure (wpAny_bind (wpAny_dictEntries e1 e3 ?_)))
  rw [if_neg (by simp)]
  refine wpAny_bind (wpAny_pure (wpAny_bind (wpAny_dictEpoch e1 e3 ?_)))
  rw [if_neg (by simp)]
  refine wpAny_pure ?_
  simp only [show ¬ ((es.size : Int) < 0) from by lia, if_false, Int.toNat_natCast, Array.getElem?_eq_none (Nat.le_refl es.size)]
  refine wpAny_bind ?_
  first | refine wpAny_bind (wpAny_typeNameOfWhole_keyiter hit.typeIs (wpAny_pure ?_)) | refine wpAny_bind (wpAny_typeNameOf_keyiter hit.typeIs (wpAny_pure ?_))
  show wpAny _ _ (setField (.ref it) 0 .none >>= _) _ _ s
  refine wpAny_bind (wpAny_setField o1 o3 (by simp) ?_)
  show wpAny _ _ (newExc (.type "StopIteration") [] >>= _) _ _ _
  refine wpAny_bind ?_
  simp only [newExc, newTuple]
  refine wpAny_bind (wpAny_newObj_type ?_ (by size_fits))
  refine wpAny_bind (m := firstArgMember _ _) (wpAny_of_eq (a := Value.none) (by first | rfl | (simp only [firstArgMember]; rfl)) ?_)
  refine wpAny_newObj_type ?_ (by size_fits)
  simp only [raiseNew]
  refine wpAny_bind (wpAny_handled ?_)
  rw [show A.in1.handled = none from hh]
  refine wpAny_bind (wpAny_pure (wpAny_throw ?_))
  refine wpAny_bind (wpAny_isInstance (T := "StopIteration") (b := true) ⟨_, Heap.get?_push_size _ rfl, rfl⟩ isSubtype_stop ?_)
  exact wpAny_pure (h _ (((Heap.SameBut.update ..).extBut.push _).push _))
theorem raw_walks (hh : A.handled = none) (I d : Addr) (hne : d ≠ I) (es : Array DictEntry) (ep : Nat) :
    Walks prog w A I [I, d] [I] es.size (fun i v => ∃ e, es[i]? = some e ∧ v = e.key) (fun i h => h.IsKeyIter I d i es.size ep ∧ RawD h d es ep) where
  sub := fun b hb => by simp at hb; simp [hb]
  frame := fun _ _ _ st hk => ⟨st.1.at fun o e => hk I (by simp) o e, st.2.keep fun o e => hk d (by simp) o e⟩
  item := fun i s Q E hi st hQ => raw_next st.1 st.2 hi fun h' hit' hs' =>
    hQ _ h' s.toks ⟨es[i], by simp [hi], rfl⟩ ⟨hit', st.2.keep fun o e => hs'.extBut d o hne e⟩ fun b o hb e => hs'.extBut b o (fun h => hb (by simp [h])) e
  done := fun s Q E st hQ => raw_end hh st.1 st.2 fun h' he' => hQ h' s.toks fun b o hb e => he' b o (fun h => hb (by simp [h])) e
  self := fun _ _ _ _ st hQ => wpAny_pyIter_keyiter st.1 hQ
end
section
variable {prog : Program} {w : World} {A : Around} {E : Value → Shared → Prop} {s : Shared} {d : Addr} {es : Array DictEntry} {ep : Nat}
theorem raw_hint {Q : Bool → Shared → Prop} (hd : RawD s.heap d es ep) (h : Q false s) : wpAny (model prog w) A (Builtin.List.listLengthHint (.ref d)) Q E s := by
  unfold Builtin.List.listLengthHint
  refine wpAny_bind (wpAny_specialOf hd.type F.slot_dict_len.lookup ?_)
  generalize hid : ("dict.__len__" : String) = id0
  wp_delta
  rw [show splitId id0 = some ("dict", "__len__") from by subst hid; decide +kernel]
  subst hid
  refine wpAny_bind (wpAny_isInstance (T := "dict") (b := true) hd.type (by rw [isSubtype_type]; kernel_rfl) ?_)
  refine wpAny_ite_split (fun hab => absurd hab (by decide)) (fun _ => ?_)
  refine wpAny_ite_split (fun _ => ?_) (fun hab => absurd (by decide +kernel) hab)
  refine wpAny_bind (wpAny_typeOf (T := "dict") hd.type ?_)
  exact wpAny_pure h
theorem raw_extend {R : Result → Shared → Prop} (hh : A.handled = none) (hs : (d == sysModules) = false) (hd : RawD s.heap d es ep) (hn : es.size ≤ sizeLine) (S : Addr) (res : Value) (c₀ : Nat) (hS : s.heap.get? S = some { cls := .type "list", data := .seq #[] c₀ })
    (hR : ∀ h' tk acc' c', (∀ b o, b ≠ S → s.heap.get? b = some o → h'.get? b = some o) → h'.get? S = some { cls := .type "list", dict := none, data := .seq acc' c', slots := #[] } →
      ItemsOf (fun i v => ∃ e, es[i]? = some e ∧ v = e.key) acc' es.size → R (.ok (.ret res)) { s with heap := h', toks := tk }) :
    wpAny (model prog w) A.in1 (Builtin.List.listExtendWith (.ref S) (.ref d) res)
      (fun fin s' => match fin with | .done f => R (.ok f) s' | .again c' => c'.quiet = true ∧ codeAny (model prog w) A c' R s') (fun e s' => R (.error e) s') s := by
  have hSd : S ≠ d := fun e => by
    obtain ⟨o, e1, e2, e3⟩ := hd
    rw [← e, hS] at e1
    cases e1
    cases e3
  have hlt : S < s.heap.objs.size := Heap.lt_size hS
  have hSI : S ≠ s.heap.objs.size := Nat.ne_of_lt hlt
  have hdI : d ≠ s.heap.objs.size := Nat.ne_of_lt (by obtain ⟨o, e1, _⟩ := hd; exact Heap.lt_size e1)
  have hSf : S ∉ [s.heap.objs.size, d] := fun hm => by
    rcases List.mem_cons.mp hm with e | hm
    · exact hSI e
    · exact hSd (List.mem_singleton.mp hm)
  have key : ∀ (h : Heap) (c₁ tk : Nat), h.IsKeyIter s.heap.objs.size d 0 es.size ep → RawD h d es ep → (∀ b o, b ≠ S → s.heap.get? b = some o → h.get? b = some o) →
      h.get? S = some { cls := .type "list", data := .seq #[] c₁ } → codeAny (model prog w) A (.builtin "list.extend.loop" ⟨[.ref S, .ref s.heap.objs.size, res], []⟩) R { s with heap := h, toks := tk } := by
    intro h c₁ tk hit hd' hk hS₁
    refine codeAny_extend_loopS (raw_walks (prog := prog) (w := w) (A := A.in1) hh s.heap.objs.size d hdI es ep).toS hn S hSf res es.size 0 _ #[] c₁ rfl (Nat.zero_le _) ⟨hit, hd'⟩ hS₁ (ItemsOf.nil _) fun s' acc' c' hm hS' hacc => ?_
    rw [Moved.eq_with hm]
    refine hR s'.heap s'.toks acc' c' (fun b o hb e => hm.heap b o (fun hmem => ?_) (hk b o hb e)) hS' hacc
    rcases List.mem_cons.mp hmem with e' | hmem
    · exact hb e'
    · exact absurd (Heap.lt_size e) (by rw [List.mem_singleton.mp hmem]; exact Nat.lt_irrefl _)
  unfold Builtin.List.listExtendWith
  refine wpAny_bind (wpAny_typeOf (T := "dict") hd.type ?_)
  have h1 : Builtin.List.listSameRef (.ref S) (.ref d) = false := by simp [Builtin.List.listSameRef, hSd]
  have h2 : (Value.type "dict" == Value.type "list") = false := by decide
  have h3 : (Value.type "dict" == Value.type "tuple") = false := by decide
  simp only [h1, h2, h3, Bool.or_false, Bool.false_eq_true, if_false]
  refine wpAny_bind (raw_iter hs hd ?_)
  have hd₁ : RawD (s.heap.push { cls := .type "dict_keyiterator", data := .fields #[.ref d, .int 0 0, .int es.size 0, .int ep 0] }) d es ep := hd.keep fun o e => Heap.get?_push_of_some _ e
  refine wpAny_bind (wpAny_holding (raw_hint hd₁ ?_))
  have hit₁ : (s.heap.push { cls := .type "dict_keyiterator", data := .fields #[.ref d, .int 0 0, .int es.size 0, .int ep 0] }).IsKeyIter s.heap.objs.size d 0 es.size ep := ⟨_, Heap.get?_push_size _ rfl, rfl, rfl⟩
  have hS₁ := Heap.get?_push_of_some { cls := .type "dict_keyiterator", data := .fields #[.ref d, .int 0 0, .int es.size 0, .int ep 0] } hS
  refine wpAny_ite_split (fun _ => ?_) (fun hab => absurd (by decide +kernel) hab)
  refine wpAny_bind (wpAny_rule (wpAny_bind ?_))
  show wpAny _ _ (updateSeq S (·.push .none) >>= fun _ => updateSeq S (·.pop)) _ _ _
  refine wpAny_bind (wpAny_updateSeq hS₁ rfl ?_)
  have hS₂ := Heap.get?_update_self (Obj.mapSeq (·.push Value.none)) hS₁ rfl
  refine wpAny_updateSeq (hz := by seq_fits) hS₂ rfl ?_
  have hS₃ := Heap.get?_update_self (Obj.mapSeq (·.pop)) hS₂ rfl
  have oth : ∀ b o, b ≠ S → (s.heap.push { cls := .type "dict_keyiterator", data := .fields #[.ref d, .int 0 0, .int es.size 0, .int ep 0] }).get? b = some o → (((s.heap.push { cls := .type "dict_keyiterator", data := .fields #[.ref d, .int 0 0, .int es.size 0, .int ep 0] }).update S (Obj.mapSeq (·.push Value.none))).update S (Obj.mapSeq (·.pop))).get? b = some o := fun b o hb e =>
    (Heap.get?_update_other _ _ (Ne.symm hb)).trans ((Heap.get?_update_other _ _ (Ne.symm hb)).trans e)
  exact wpAny_pure ⟨plainId_quiet F.plain_extend_loop _, key _ _ _ (hit₁.at fun o e => oth _ _ (Ne.symm hSI) e) (hd₁.keep fun o e => oth _ _ (Ne.symm hSd) e) (fun b o hb e => oth b o hb (Heap.get?_push_of_some _ e)) hS₃⟩
theorem raw_init {R : Result → Shared → Prop} (hh : A.handled = none) (hs : (d == sysModules) = false) (hd : RawD s.heap d es ep) (hn : es.size ≤ sizeLine) (S : Addr) (hS : s.heap.get? S = some { cls := .type "list", data := .seq #[] })
    (hR : ∀ h' tk acc' c', (∀ b o, b ≠ S → s.heap.get? b = some o → h'.get? b = some o) → h'.get? S = some { cls := .type "list", dict := none, data := .seq acc' c', slots := #[] } →
      ItemsOf (fun i v => ∃ e, es[i]? = some e ∧ v = e.key) acc' es.size → R (.ok (.ret .none)) { s with heap := h', toks := tk }) :
    wpAny (model prog w) A.in1 (Builtin.«list.__init__» ⟨[.ref S, .ref d], []⟩)
      (fun fin s' => match fin with | .done f => R (.ok f) s' | .again c' => c'.quiet = true ∧ codeAny (model prog w) A c' R s') (fun e s' => R (.error e) s') s := by
  have hSd : S ≠ d := fun e => by
    obtain ⟨o, e1, e2, e3⟩ := hd
    rw [← e, hS] at e1
    cases e1
    cases e3
  show wpAny _ _ (do let old ← Builtin.List.listItems (.ref S); Builtin.List.listUpdate (.ref S) (fun _ => #[]); letGo old.toList.reverse; Builtin.List.listExtendWith (.ref S) (.ref d) .none) _ _ s
  refine wpAny_bind ?_
  unfold Builtin.List.listItems
  refine wpAny_bind (wpAny_seqItems hS rfl (wpAny_pure ?_))
  show wpAny _ _ (updateSeq S (fun _ => #[]) >>= fun _ => letGo (#[] : Array Value).toList.reverse >>= fun _ => Builtin.List.listExtendWith (.ref S) (.ref d) .none) _ _ s
  refine wpAny_bind (wpAny_updateSeq hS rfl ?_)
  have hS₂ := Heap.get?_update_self (Obj.mapSeq (fun _ => (#[] : Array Value))) hS rfl
  have oth : ∀ b o, b ≠ S → s.heap.get? b = some o → (s.heap.update S (Obj.mapSeq (fun _ => (#[] : Array Value)))).get? b = some o :=
    fun b o hb e => (Heap.get?_update_other _ _ (Ne.symm hb)).trans e
  refine wpAny_bind (wpAny_letGo ?_)
  refine raw_extend hh hs (hd.keep fun o e => oth _ _ (Ne.symm hSd) e) hn S .none _ hS₂ fun h' tk acc' c' hk hS' hacc => ?_
  exact hR h' tk acc' c' (fun b o hb e => hk b o hb (oth b o hb e)) hS' hacc
theorem raw_list {Q : Value → Shared → Prop} (hh : A.handled = none) (hs : (d == sysModules) = false) (hd : RawD s.heap d es ep) (hn : es.size ≤ sizeLine)
    (hQ : ∀ h' tk acc' c', (∀ b o, s.heap.get? b = some o → h'.get? b = some o) →
      h'.get? s.heap.objs.size = some { cls := .type "list", dict := none, data := .seq acc' c', slots := #[] } → ItemsOf (fun i v => ∃ e, es[i]? = some e ∧ v = e.key) acc' es.size → Q (.ref s.heap.objs.size) { s with heap := h', toks := tk }) :
    wpAny (model prog w) A (call (.type "list") [.ref d]) Q E s := by
  refine callType_codes (Q₁ := fun obj s₁ => obj = .ref s.heap.objs.size ∧ s₁ = { s with heap := s.heap.push { cls := .type "list", data := .seq #[] } }) F.called_list (F.typeCall_list_1 _) F.entry_list_init
    (code_list_new _ ⟨rfl, rfl⟩) fun obj s₁ h₁ => ?_
  obtain ⟨rfl, rfl⟩ := h₁
  have hS : (s.heap.push { cls := .type "list", data := .seq #[] }).get? s.heap.objs.size = some { cls := .type "list", data := .seq #[] } := Heap.get?_push_size _ rfl
  refine ⟨⟨_, hS, rfl⟩, F.args_list_init_2 _ _, raw_init (A := A.in1) hh hs (hd.keep fun o e => Heap.get?_push_of_some _ e) hn _ hS fun h' tk acc' c' hk hS' hacc => ?_⟩
  exact ⟨rfl, hQ h' tk acc' c' (fun b o e => hk b o (Nat.ne_of_lt (Heap.lt_size e)) (Heap.get?_push_of_some _ e)) hS' hacc⟩
end
end L2

set_option Elab.async false
set_option linter.all false
set_option maxRecDepth 100000
set_option maxHeartbeats 4000000
/-! len(d), list(d) in the data layer -/
namespace L2
open PySem PySem.Spec PyProof.Rows
theorem DOk.raw {X : Cx} {pins : List (Addr × Obj)} {σ : St} {H : Hp} {s : Shared} (I : Inv X pins σ H s) {a : Addr} {xs : List DEnt} (h : DOk H a xs) : ∃ es ep, RawD s.heap a es ep ∧ es.toList = xs.map entD := by
  obtain ⟨ep, h0⟩ := h.at'
  obtain ⟨⟨o, es, e1, e2, e3, e4⟩, _⟩ := I.hok a _ h0
  exact ⟨es, ep, ⟨o, e1, e2, e3⟩, e4⟩
theorem RepKV.keysAll {K : PySem.W.Frag} {A : Option Addr → Prop} {H : Hp} : ∀ {xs : List DEnt} {kvs : List (PyData × PyData)}, RepKV K A H xs kvs → RepAll K A H (xs.map fun x => V.ref x.2.1) (kvs.map (·.1))
  | _, _, .nil => .nil
  | _, _, .cons h1 _ _ _ _ r => .cons h1 (RepKV.keysAll r)
theorem RepKV.immKeys {K : PySem.W.Frag} {A : Option Addr → Prop} {H : Hp} : ∀ {xs : List DEnt} {kvs : List (PyData × PyData)}, RepKV K A H xs kvs → immAll (kvs.map (·.1)) = true
  | _, _, .nil => rfl
  | _, _, .cons (k := k) (kvs := kvs) _ h2 _ _ _ r => by
    show (immB k && immAll (kvs.map (·.1))) = true
    rw [key_imm h2, RepKV.immKeys r]
    rfl
theorem vals_keys : ∀ {xs : List DEnt} {acc : List Value}, acc.length = xs.length → (∀ (j : Nat) v, acc[j]? = some v → ∃ e, (xs.map entD)[j]? = some e ∧ v = e.key) → Vals (xs.map fun x => V.ref x.2.1) acc
  | [], [], _, _ => .nil
  | [], _ :: _, h, _ => by cases h
  | _ :: _, [], h, _ => by cases h
  | x :: r, v :: t, h, q => by
    refine .cons ?_ (vals_keys (by simpa using h) fun j w hw => ?_)
    · obtain ⟨e, e1, e2⟩ := q 0 v rfl
      cases e1
      exact e2
    · obtain ⟨e, e1, e2⟩ := q (j + 1) w (by simpa using hw)
      exact ⟨e, by simpa using e1, e2⟩
theorem call_listD {X : Cx} (hc : X.calm = true) : CallR X (.type "list") (fun ys H Q => ∃ a xs, ys = [.ref a] ∧ DOk H a xs ∧ ∀ l, H l = none → Q (.ref l) (upd H l (.lst (xs.map fun x => V.ref x.2.1)))) := by
  intro pins s σ H ys us Q I r h
  obtain ⟨a, xs, rfl, h1, q⟩ := h
  obtain ⟨u, rfl, ru⟩ := r.one
  cases ru
  obtain ⟨es, ep, hd, he⟩ := h1.raw I
  have hz : es.size = xs.length := by rw [← Array.length_toList, he, List.length_map]
  have hzl : xs.length ≤ sizeLine := Nat.le_trans h1.len big_line
  refine raw_list (I.ok.hd hc) h1.sm hd (by rw [hz]; exact hzl) fun h' tk acc' c' kp e hacc => ?_
  have hv : Vals (xs.map fun x => V.ref x.2.1) acc'.toList := vals_keys (by rw [Array.length_toList, hacc.1, hz]) fun j v hj => by
    obtain ⟨e0, w1, w2⟩ := hacc.2 j v (by rw [← Array.getElem?_toList]; exact hj)
    exact ⟨e0, by rw [← he, Array.getElem?_toList]; exact w1, w2⟩
  refine ⟨.ref s.heap.objs.size, _, I.laid (t' := tk) kp (Nat.le_refl _) (show ObjOk X.prog X.w _ h' _ (.lst (xs.map fun x => V.ref x.2.1)) from ⟨by rw [List.length_map]; exact hzl, acc'.toList, c', hv, by simpa using e⟩), rfl, q _ (I.hok.fresh (Nat.le_refl _))⟩
noncomputable instance callListD (kvs : List (PyData × PyData)) : CallD (.type "list") [.dict kvs] (.list (kvs.map (·.1))) True := ⟨fun _ {X} hc _ => ⟨_, call_listD hc, fun ys H Q rx q => by
  obtain ⟨x, rfl, r1⟩ := rx.one
  obtain ⟨a, xs, rfl, h1, _, h2⟩ := r1.toDict
  exact ⟨a, xs, rfl, h1, fun l hl => q _ _ (same_new hl _) (.lst (.inl ⟨upd_same, hl⟩) ((h2.keysAll.imm0 h2.immKeys).mono (same_new hl _).ext))⟩⟩⟩
end L2

set_option Elab.async false
set_option linter.all false
set_option maxRecDepth 100000
set_option maxHeartbeats 4000000
/-! d.clear() -/
namespace L2
open PySem PySem.Spec PyProof.Rows
section
variable {prog : Program} {w : World} {A : Around} {E : Value → Shared → Prop} {s : Shared} {d : Addr} {es : Array DictEntry} {ep : Nat}
theorem raw_clear {Q : Value → Shared → Prop} (hd : RawD s.heap d es ep) (hn : es.size ≤ sizeLine) (h : ∀ h', RawD h' d #[] (ep + 1) → Heap.SameBut d s.heap h' → Q .none { s with heap := h' }) : wpAny (model prog w) A (call (.builtin "dict.clear") [.ref d]) Q E s := by
  obtain ⟨o, e1, e2, e3⟩ := id hd
  refine wpAny_call_entry F.slot_dict_clear hd.type F.entry_dict_clear ?_ (F.args_dict_clear_1 _)
  unfold Builtin.«dict.clear»
  refine wpAny_bind ?_
  unfold Builtin.Dict.noArgs
  refine wpAny_bind (wpAny_notOrdered_dict hd.type ?_)
  show wpAny _ _ (pure d) _ _ s
  refine wpAny_pure (wpAny_bind (wpAny_dictEntries e1 e3 (wpAny_bind ?_)))
  unfold bearsInstanceDictMark
  refine wpAny_bind (wpAny_load e1 (wpAny_pure ?_))
  refine wpAny_bind (wpAny_updateDictKeys (hz := hn) e1 e3 ?_)
  have new : RawD (s.heap.update d (Obj.mapDictKeys fun _ => #[])) d #[] (ep + 1) := ⟨_, Heap.get?_update_self _ e1 (Obj.isFreed_of_dict (Obj.data_mapDictKeys e3 _)), e2.mapDictKeys _, Obj.data_mapDictKeys e3 _⟩
  split
  · exact wpAny_bind (wpAny_letGo (wpAny_pure ⟨_, rfl, h _ new (Heap.SameBut.update ..)⟩))
  · exact wpAny_bind (wpAny_pure (wpAny_pure ⟨_, rfl, h _ new (Heap.SameBut.update ..)⟩))
end
section
variable {X : Cx} {D : Ends} {env : Nv} {own : Own} {o : Expr} {to : TE} {x : Str} {i : Nat} {p apos cpos pos : Pos} {H0 H : Hp} {σ : St} {rest : List Stmt}
theorem pe_clearD (ho : PE X o to) (hbase : attributeBase o "clear" X.env (eval o X.env) = eval o X.env := by rfl) (hline : (apos.endLine == cpos.line) = true := by rfl) :
    PE X (.Call (.Attribute o "clear" apos) [] [] cpos) (fun σ H Q => to σ H fun x H1 => ∃ a xs, x = .ref a ∧ DOk H1 a xs ∧ ∀ ep, Q .non (upd H1 a (DCell a [] ep))) := by
  intro pins s σ H Q I h
  refine wpAny_Call_method0_late hbase hline (thn (ho pins s σ H _ I h) fun v s1 ⟨x, H1, I1, r1, a, xs, e, hd, q⟩ => ?_)
  subst e
  cases r1
  obtain ⟨es, ep, hr, he⟩ := hd.raw I1
  have hz : es.size = xs.length := by rw [← Array.length_toList, he, List.length_map]
  refine ⟨"dict", "dict.clear", PySem.F.plainAttrs_dict, F.slot_dict_clear, F.type_dict_clear, hr.type, fun b e => ?_, Calls.callWith_builtin rfl (PySem.evalArgs_none (raw_clear hr (by rw [hz]; exact Nat.le_trans hd.len big_line) fun h' hr' sb => ?_))⟩
  · cases e
    obtain ⟨o, e1, e2, _⟩ := hr
    exact ⟨o, e1, e2.2.1⟩
  · obtain ⟨o, g1, g2, g3⟩ := hr'
    refine ⟨.non, upd H1 a (DCell a [] (ep + 1)), I1.write (x := a) (e := a) (h' := h') (by obtain ⟨ep0, h0⟩ := hd.at'; rw [h0]; trivial) (.inl rfl) (fun c w hc hw => by rw [sb.2 c hc]; exact hw) ⟨o, g1⟩ ?_, rfl, q (ep + 1)⟩
    exact ⟨⟨o, _, g1, g2, g3, rfl⟩, ⟨o, g1⟩, fun z1 z2 ⟨o1, es1, k1, k2, k3, k4⟩ hz => ⟨o1, es1, hz _ k1, k2, k3, k4⟩⟩
/-- x.clear(), x an owned dict -/
theorem w_clearD {k : Nat} {a : Addr} {kvs : List (PyData × PyData)} (hN : X.N[i]? = some x) (hv : Vis X.env.scope x) (he : env[i]? = some (some (.o k))) (ho : own[k]? = some (a, .d kvs)) (Z : Sta X.K H0 H σ env own) (kk : ∀ H', Sta X.K H0 H' σ env (own.set k (a, .d [])) → W X D rest σ H')
    (hbase : attributeBase (.Name x p) "clear" X.env (eval (.Name x p) X.env) = eval (.Name x p) X.env := by rfl) (hline : (apos.endLine == cpos.line) = true := by rfl)
    (hsw : swapsWith (.Call (.Attribute (.Name x p) "clear" apos) [] [] cpos) none pos.line X.env = pure false := by rfl) (hdb : (x == ("__debug__" : Str)) = false := by decide) (hcd : (x == ("__classdict__" : Str)) = false := by decide) :
    W X D (.Expr (.Call (.Attribute (.Name x p) "clear" apos) [] [] cpos) pos :: rest) σ H := by
  refine W.cons (ps_expr (pe_clearD (pe_var hN hv hdb hcd) hbase hline) hsw) ?_
  obtain ⟨b, c, h1, h2⟩ := Z.sl i _ he
  rw [ho] at h1
  cases h1
  obtain ⟨h3, ys, h4, h5⟩ := Z.ow _ (List.mem_of_getElem? ho)
  obtain ⟨ep0, h40⟩ := h4.at'
  exact ⟨_, h2, a, ys, rfl, h4, fun ep => kk _ (Z.putD ho h40 ⟨⟨ep, upd_same⟩, List.nodup_nil, Nat.zero_le _, h4.sm⟩ .nil)⟩
end
end L2

set_option Elab.async false
set_option linter.all false
set_option maxRecDepth 100000
set_option maxHeartbeats 4000000
/-! == of dicts -/
namespace L2
open PySem PySem.Spec PyProof.Rows
section
variable {prog : Program} {w : World} {A : Around} {E : Value → Shared → Prop} {s : Shared} {a b : Addr} {xa xb : List DEnt}
noncomputable def goodE (cmp : Value → Value → Bool) (xb : List DEnt) (x : DEnt) : Bool := match atKey xb x.1 with
  | some p => cmp x.2.2 p.2
  | none => false
theorem same_pairsD {nm : String} {cmp : Value → Value → Bool} {Q : Bool → Shared → Prop} (ha : (a == sysModules) = false) (hb : (b == sysModules) = false) (hu : A.units + 16 < cLine)
    (da : Heap.DictOfH (keyKindD prog w) s.heap a xa) (db : Heap.DictOfH (keyKindD prog w) s.heap b xb) (he : ∀ x ∈ xa, ∀ y ∈ xb, SeqAt.EqAt A s x.2.2 y.2.2 (cmp x.2.2 y.2.2))
    (h : Q (decide (xa.length = xb.length) && xa.all (goodE cmp xb)) s) : wpAny (model prog w) A (Builtin.Dict.samePairs nm a b) Q E s := by
  obtain ⟨oa, es, ep, a1, a2, a3, a4, a5, a6⟩ := da
  obtain ⟨ob, fs, fp, b1, b2, b3, b4, b5, b6⟩ := db
  have la : es.size = xa.length := by rw [← Array.length_toList, a4, List.length_map]
  have lb : fs.size = xb.length := by rw [← Array.length_toList, b4, List.length_map]
  unfold Builtin.Dict.samePairs Builtin.Dict.showsAll
  rw [if_neg (show ¬ (a == sysModules) = true by rw [ha]; exact Bool.false_ne_true), if_neg (show ¬ (b == sysModules) = true by rw [hb]; exact Bool.false_ne_true)]
  refine wpAny_bind (wpAny_pure (wpAny_bind (wpAny_pure (wpAny_bind (wpAny_dictEntries a1 a3 ?_)))))
  dsimp only
  refine wpAny_bind (wpAny_dictEntries b1 b3 ?_)
  by_cases hz : es.size = fs.size
  · rw [if_neg (by rw [hz]; simp)]
    rw [decide_eq_true (show xa.length = xb.length by rw [← la, ← lb]; exact hz), Bool.true_and] at h
    refine wpAny_bind (wpAny_dictEpoch a1 a3 (wpAny_bind ?_))
    rw [Std.Legacy.Range.forIn_eq_forIn_range']
    simp only [Std.Legacy.Range.size, Nat.sub_zero, Nat.add_sub_cancel, Nat.div_one]
    refine wpAny_forIn_list _ (fun rest q s' => s' = s ∧ q = (none, ()) ∧ ∃ i, rest = List.range' i (es.size - i) ∧ i ≤ es.size ∧ (xa.take i).all (goodE cmp xb) = true) _ ?_ ?_ _ _ ⟨rfl, rfl, 0, by simp, Nat.zero_le _, by simp⟩
    · rintro x rest q s' ⟨rfl, rfl, i, hr, hi, hg⟩
      have hlt : i < es.size := by
        rcases Nat.lt_or_ge i es.size with z | z
        · exact z
        · rw [Nat.sub_eq_zero_of_le z] at hr; simp at hr
      obtain ⟨rfl, hrest⟩ : x = i ∧ rest = List.range' (i + 1) (es.size - (i + 1)) := by
        rw [show es.size - i = (es.size - (i + 1)) + 1 by lia, List.range'_succ] at hr
        injection hr with h1 h2
        exact ⟨h1, h2⟩
      have hlx : x < xa.length := by rw [← la]; exact hlt
      have hmem : xa[x] ∈ xa := List.getElem_mem hlx
      have ee : es[x] = entD xa[x] := by
        have z : es.toList[x]? = some es[x] := by rw [Array.getElem?_toList]; exact Array.getElem?_eq_getElem hlt
        rw [a4, List.getElem?_map, List.getElem?_eq_getElem hlx] at z
        exact (Option.some.inj z).symm
      have bad : goodE cmp xb xa[x] = false → xa.all (goodE cmp xb) = false := fun z => by
        rw [List.all_eq_false]
        exact ⟨_, hmem, by rw [z]; decide⟩
      refine wpAny_bind (wpAny_dictEntries a1 a3 ?_)
      rw [Array.getElem?_eq_getElem hlt, ee]
      show wpAny _ _ (holding [Value.ref xa[x].2.1, xa[x].2.2] _ >>= _) _ _ _
      refine wpAny_bind (wpAny_holding (wpAny_bind ?_))
      show wpAny _ _ (dictFind b (.ref xa[x].2.1) ((keyKindD prog w).hash xa[x].1)) _ _ _
      refine wpAny_dictFind_heap (knd := keyKindD prog w) hu (a5 _ hmem) b1 b3 b4 b5 b6 (fun hno => ?_) (fun j p hj => ?_)
      · have hn : atKey xb xa[x].1 = none := atKey_none_of_get hno
        rw [bad (by unfold goodE; rw [hn])] at h
        refine wpAny_pure ?_
        show wpAny _ _ (if (!false) = true then _ else _) _ _ _
        rw [if_pos (by decide)]
        exact wpAny_pure (wpAny_pure h)
      · have hs : atKey xb xa[x].1 = some p := atKey_of_get b6 hj
        have hgv : goodE cmp xb xa[x] = cmp xa[x].2.2 p.2 := by unfold goodE; rw [hs]
        refine wpAny_bind (wpAny_dictEntries b1 b3 ?_)
        rw [entry_at b4 j, hj]
        refine wpAny_holding (he _ hmem _ (List.mem_of_getElem? hj) prog w _ _ ?_)
        cases hc : cmp xa[x].2.2 p.2 with
        | false =>
          rw [bad (by rw [hgv, hc])] at h
          rw [if_pos (by decide)]
          exact wpAny_pure (wpAny_pure h)
        | true =>
          rw [if_neg (by decide)]
          refine wpAny_bind (wpAny_dictEpoch a1 a3 ?_)
          rw [if_neg (by simp)]
          refine wpAny_pure ⟨rfl, rfl, x + 1, hrest, hlt, ?_⟩
          rw [List.take_succ_eq_append_getElem hlx, List.all_append, hg, Bool.true_and]
          simp [hgv, hc]
    · rintro q s' ⟨rfl, rfl, i, hr, hi, hg⟩
      have hin : i = es.size := by
        rcases Nat.lt_or_ge i es.size with z | z
        · rw [show es.size - i = (es.size - (i + 1)) + 1 by lia, List.range'_succ] at hr; exact nomatch hr
        · exact Nat.le_antisymm hi z
      rw [hin, la, List.take_length] at hg
      rw [hg] at h
      exact wpAny_pure h
  · rw [if_pos (by simpa using hz)]
    rw [decide_eq_false (show ¬ xa.length = xb.length by rw [← la, ← lb]; exact hz), Bool.false_and] at h
    exact wpAny_bind (wpAny_rule (wpAny_pure h))
theorem ne_dictD {cmp : Value → Value → Bool} {Q : Value → Shared → Prop} (ha : (a == sysModules) = false) (hb : (b == sysModules) = false) (hu : A.units + 64 < cLine)
    (da : Heap.DictOfH (keyKindD prog w) s.heap a xa) (db : Heap.DictOfH (keyKindD prog w) s.heap b xb) (he : ∀ x ∈ xa, ∀ y ∈ xb, SeqAt.EqAt A.in1 s x.2.2 y.2.2 (cmp x.2.2 y.2.2))
    (h : Q (.bool (!(decide (xa.length = xb.length) && xa.all (goodE cmp xb)))) s) : wpAny (model prog w) A (compareOp .NotEq (.ref a) (.ref b)) Q E s := by
  refine wpAny_richCompare_same_room (op := .NotEq) da.typeIs db.typeIs PySem.F.slot_dict_ne (wpAny_call_entry PySem.F.slot_dict_ne da.typeIs PySem.F.entry_dict_ne ?_ (PySem.F.args_dict_ne_2 _ _)) (by lia)
  show wpAny _ _ (Builtin.Dict.dictSlotArgs "__ne__" ⟨[.ref a, .ref b], []⟩ >>= _) _ _ s
  refine wpAny_bind ?_
  unfold Builtin.Dict.dictSlotArgs
  refine wpAny_bind (wpAny_notOrdered_dict da.typeIs ?_)
  show wpAny _ _ (pure (Value.ref a, Value.ref b)) _ _ s
  refine wpAny_pure (wpAny_bind (wpAny_isInstance (T := "dict") db.typeIs PySem.F.sub_dict_dict ?_))
  simp only [Bool.not_true, Bool.false_eq_true, if_false]
  refine wpAny_bind (wpAny_pure (wpAny_bind (wpAny_pure ?_)))
  refine wpAny_bind (same_pairsD ha hb (by rw [Around.in1_units]; lia) da db he ?_)
  refine wpAny_pure ⟨_, rfl, (fun x => nomatch x), ?_⟩
  simpa using h
end
/-! ### with ints as values -/
noncomputable def cmpI : Value → Value → Bool
  | .int i _, .int j _ => PyData.eqv (.int i) (.int j)
  | _, _ => false
noncomputable def eqvD (ka kb : List (PyData × PyData)) : Bool := decide (ka.length = kb.length) && ka.all fun p => match dAt kb p.1 with
  | some e => PyData.eqv p.2 e
  | none => false
class IntKV (kvs : List (PyData × PyData)) : Prop where
  ok : ∀ p ∈ kvs, ∃ i : Int, p.2 = .int i
noncomputable instance intKVmap {α : Type} (f : α → PyData) (g : α → Int) (xs : List α) : IntKV (xs.map fun a => (f a, .int (g a))) := ⟨fun p hp => by
  obtain ⟨a, _, rfl⟩ := List.mem_map.mp hp
  exact ⟨_, rfl⟩⟩
theorem RepKV.ints {K : PySem.W.Frag} {A : Option Addr → Prop} {H : Hp} : ∀ {xs : List DEnt} {kvs : List (PyData × PyData)}, RepKV K A H xs kvs → (∀ p ∈ kvs, ∃ i : Int, p.2 = .int i) → ∀ x ∈ xs, ∃ i t, x.2.2 = Value.int i t
  | _, _, .nil, _, x, hx => by cases hx
  | _, _, .cons h1 h2 h3 h4 h5 r, hi, x, hx => by
    rcases List.mem_cons.mp hx with e | hx
    · subst e
      obtain ⟨i, e⟩ := hi _ List.mem_cons_self
      have e' : _ = PyData.int i := e
      subst e'
      cases h5
      obtain ⟨t, e2⟩ := (show ∃ t, _ = Value.int i t from h4)
      exact ⟨i, t, e2⟩
    · exact RepKV.ints r (fun p hp => hi p (List.mem_cons_of_mem _ hp)) x hx
theorem RepKV.good {K : PySem.W.Frag} {A B : Option Addr → Prop} {H : Hp} {xb : List DEnt} {kb : List (PyData × PyData)} (rb : RepKV K B H xb kb) (hb : ∀ p ∈ kb, ∃ i : Int, p.2 = .int i) : ∀ {xa : List DEnt} {ka : List (PyData × PyData)}, RepKV K A H xa ka → (∀ p ∈ ka, ∃ i : Int, p.2 = .int i) →
    xa.all (goodE cmpI xb) = ka.all fun p => match dAt kb p.1 with | some e => PyData.eqv p.2 e | none => false
  | _, _, .nil, _ => rfl
  | _, _, .cons (k := k) (ka := a) (v := v) (d := d) h1 h2 h3 h4 h5 r, hi => by
    rw [List.all_cons, List.all_cons, RepKV.good rb hb r fun p hp => hi p (List.mem_cons_of_mem _ hp)]
    congr 1
    obtain ⟨i, e⟩ := hi _ List.mem_cons_self
    have e' : d = PyData.int i := e
    subst e'
    cases h5
    obtain ⟨t, e2⟩ := (show ∃ t, v = Value.int i t from h4)
    subst e2
    unfold goodE
    rcases rb.at k with ⟨w1, w2⟩ | ⟨p, d', y', w1, w2, w3, w4⟩
    · show (match atKey xb k with | some p => _ | none => false) = match dAt kb k with | some e => _ | none => false
      rw [w1, w2]
    · show (match atKey xb k with | some p => _ | none => false) = match dAt kb k with | some e => _ | none => false
      rw [w1, w2]
      have hd : ∃ j : Int, d' = .int j := by
        have z : d' ∈ kb.map (·.2) := by
          unfold dAt at w2
          cases hf : kb.find? (fun x => decide (x.1 = k)) with
          | none => rw [hf] at w2; cases w2
          | some q =>
            rw [hf] at w2
            cases w2
            exact List.mem_map.mpr ⟨q, List.mem_of_find?_eq_some hf, rfl⟩
        obtain ⟨q, hq, rfl⟩ := List.mem_map.mp z
        exact hb q hq
      obtain ⟨j, rfl⟩ := hd
      cases w4
      obtain ⟨t', e3⟩ := (show ∃ t, p.2 = Value.int j t from w3)
      show cmpI (.int i t) p.2 = _
      rw [e3]
      rfl
section
variable {X : Cx}
noncomputable def rEqDict (K : PySem.W.Frag) (neg : Bool) : R2 := fun x y H Q => ∃ a b xa xb ka kb, x = .ref a ∧ y = .ref b ∧ DOk H a xa ∧ DOk H b xb ∧ RepKV K (fun _ => True) H xa ka ∧ RepKV K (fun _ => True) H xb kb ∧ IntKV ka ∧ IntKV kb ∧ Q (.bl (if neg then !eqvD ka kb else eqvD ka kb)) H
theorem eqD_fin {K : PySem.W.Frag} {H : Hp} {xa xb : List DEnt} {ka kb : List (PyData × PyData)} (ra : RepKV K (fun _ => True) H xa ka) (rb : RepKV K (fun _ => True) H xb kb) (ia : IntKV ka) (ib : IntKV kb) : (decide (xa.length = xb.length) && xa.all (goodE cmpI xb)) = eqvD ka kb := by
  unfold eqvD
  rw [ra.length, rb.length, RepKV.good rb ib.ok ra ia.ok]
theorem eqAt_of {pins : List (Addr × Obj)} {σ : St} {H : Hp} {s : Shared} {A : Around} {xa xb : List DEnt} {ka kb : List (PyData × PyData)} (ra : RepKV X.K (fun _ => True) H xa ka) (rb : RepKV X.K (fun _ => True) H xb kb) (ia : IntKV ka) (ib : IntKV kb) : ∀ x ∈ xa, ∀ y ∈ xb, SeqAt.EqAt A s x.2.2 y.2.2 (cmpI x.2.2 y.2.2) := fun x hx y hy => by
  obtain ⟨i, t, e1⟩ := ra.ints ia.ok x hx
  obtain ⟨j, u, e2⟩ := rb.ints ib.ok y hy
  rw [e1, e2]
  exact PySem.W.keq_flat (.int i t) (.int j u)
theorem op_neDict (hu : X.A.units + 64 < cLine) : OpR X (compareOp .NotEq) (rEqDict X.K true) := by
  intro pins s σ H x y v u Q I rx ry h
  obtain ⟨a, b, xa, xb, ka, kb, rfl, rfl, d1, d2, r1, r2, i1, i2, q⟩ := h
  cases rx; cases ry
  refine ne_dictD d1.sm d2.sm hu (d1.dictOf I r1) (d2.dictOf I r2) (eqAt_of (pins := pins) (σ := σ) r1 r2 i1 i2) ⟨.bl _, H, I, rfl, ?_⟩
  rw [eqD_fin r1 r2 i1 i2]
  exact q
end
noncomputable instance cmpNeDict (ka kb : List (PyData × PyData)) [i1 : IntKV ka] [i2 : IntKV kb] : CmpD .NotEq (.dict ka) (.dict kb) (!eqvD ka kb) True := ⟨fun _ {X} hu => ⟨_, op_neDict hu, fun x y H Q rx ry q => by
  obtain ⟨a, xa, rfl, h1, _, h2⟩ := rx.toDict
  obtain ⟨b, xb, rfl, k1, _, k2⟩ := ry.toDict
  exact ⟨a, b, xa, xb, ka, kb, rfl, rfl, h1, k1, h2, k2, i1, i2, q⟩⟩⟩
end L2

set_option Elab.async false
set_option linter.all false
set_option maxRecDepth 100000
set_option maxHeartbeats 4000000
/-! min, max of a list of ints -/
namespace L2
open PySem PySem.Spec PyProof.Rows
noncomputable def minI : List Int → Int
  | [] => 0
  | [n] => n
  | n :: r => if n ≤ minI r then n else minI r
noncomputable def maxI : List Int → Int
  | [] => 0
  | [n] => n
  | n :: r => if maxI r ≤ n then n else maxI r
theorem minI_spec : ∀ {ns : List Int}, ns ≠ [] → minI ns ∈ ns ∧ ∀ n ∈ ns, minI ns ≤ n
  | [], h => absurd rfl h
  | [n], _ => ⟨List.mem_singleton.mpr rfl, fun m hm => by rw [List.mem_singleton.mp hm]; exact Int.le_refl _⟩
  | n :: k :: r, _ => by
    obtain ⟨h1, h2⟩ := minI_spec (ns := k :: r) (by simp)
    have e : minI (n :: k :: r) = if n ≤ minI (k :: r) then n else minI (k :: r) := rfl
    rw [e]
    split
    · refine ⟨List.mem_cons_self, fun m hm => ?_⟩
      rcases List.mem_cons.mp hm with e | hm
      · rw [e]; exact Int.le_refl _
      · have := h2 m hm; lia
    · refine ⟨List.mem_cons_of_mem _ h1, fun m hm => ?_⟩
      rcases List.mem_cons.mp hm with e | hm
      · rw [e]; lia
      · exact h2 m hm
theorem maxI_spec : ∀ {ns : List Int}, ns ≠ [] → maxI ns ∈ ns ∧ ∀ n ∈ ns, n ≤ maxI ns
  | [], h => absurd rfl h
  | [n], _ => ⟨List.mem_singleton.mpr rfl, fun m hm => by rw [List.mem_singleton.mp hm]; exact Int.le_refl _⟩
  | n :: k :: r, _ => by
    obtain ⟨h1, h2⟩ := maxI_spec (ns := k :: r) (by simp)
    have e : maxI (n :: k :: r) = if maxI (k :: r) ≤ n then n else maxI (k :: r) := rfl
    rw [e]
    split
    · refine ⟨List.mem_cons_self, fun m hm => ?_⟩
      rcases List.mem_cons.mp hm with e | hm
      · rw [e]; exact Int.le_refl _
      · have := h2 m hm; lia
    · refine ⟨List.mem_cons_of_mem _ h1, fun m hm => ?_⟩
      rcases List.mem_cons.mp hm with e | hm
      · rw [e]; lia
      · exact h2 m hm
theorem getD_mem {ns : List Int} {i : Nat} (h : i < ns.length) : ns.getD i 0 ∈ ns := by
  have e : ns.getD i 0 = ns[i] := by simp [List.getD, h]
  rw [e]; exact List.getElem_mem h
theorem mem_getD {ns : List Int} {n : Int} (h : n ∈ ns) : ∃ i, i < ns.length ∧ ns.getD i 0 = n := by
  obtain ⟨i, hi, e⟩ := List.getElem_of_mem h
  exact ⟨i, hi, by simp [List.getD, hi, e]⟩
theorem call_minI {X : Cx} (hc : X.calm = true) : CallR X (.builtin "min") (fun xs H Q => ∃ (p : Addr) (ns : List Int), xs = [.ref p] ∧ SqL X.K H p (ns.map V.int) ∧ 0 < ns.length ∧ Q (.int (minI ns)) H) := by
  intro pins s σ H xs us Q I r h
  obtain ⟨p, ns, rfl, hq, hb, q⟩ := h
  obtain ⟨u, rfl, ru⟩ := r.one
  cases ru
  obtain ⟨its, rv, pl, hz⟩ := I.list hq
  have hlen : its.length = ns.length := by rw [← rv.length, List.length_map]
  have hh : X.A.in1.handled = none := I.ok.hd hc
  refine call_min_walk (wpAny_pyIter_list pl.isList ?_)
  have hne : p ≠ s.heap.objs.size := Nat.ne_of_lt (by obtain ⟨o, e, _⟩ := pl.isList; exact Heap.lt_size e)
  have hval : ∀ (i : Nat) v, its.toArray[i]? = some v → ∃ t, v = Value.int (ns.getD i 0) t := fun i v hi => vals_intAt rv i v (by simpa using hi)
  refine ⟨s.heap.objs.size, [s.heap.objs.size, p], [s.heap.objs.size], its.toArray.size, fun i v => its.toArray[i]? = some v, _, _, rfl, Walks.list hh s.heap.objs.size p hne _, ⟨?_, ?_⟩, ?_, by rw [List.size_toArray, hlen]; exact hb, CmpOf.ints_lt (fun i => ns.getD i 0) hval, fun v h' tk hP k => ?_⟩
  · exact ⟨_, Heap.get?_push_size _ rfl, rfl, rfl⟩
  · obtain ⟨o, e, r⟩ := pl.isList
    exact ⟨o, Heap.get?_push_of_some _ e, r⟩
  · intro b hb
    rcases List.mem_cons.mp hb with e | hb
    · rw [e]; exact Heap.lt_size (Heap.get?_push_size s.heap rfl)
    · rw [List.mem_singleton.mp hb]
      obtain ⟨o, e, _⟩ := pl.isList
      exact Heap.lt_size (Heap.get?_push_of_some _ e)
  · rw [List.size_toArray, hlen] at hP
    obtain ⟨t, rfl⟩ := hval _ _ hP
    obtain ⟨z1, z2⟩ := argBest_lt (fun i => ns.getD i 0) (ns.length - 1)
    have hm : ns.getD (argBest (fun i j => decide (ns.getD i 0 < ns.getD j 0)) (ns.length - 1)) 0 = minI ns := by
      obtain ⟨w1, w2⟩ := minI_spec (ns := ns) (by intro e; rw [e] at hb; cases hb)
      obtain ⟨i, hi, e⟩ := mem_getD w1
      have k1 := z2 i (by lia)
      have k2 := w2 _ (getD_mem (ns := ns) (i := argBest (fun i j => decide (ns.getD i 0 < ns.getD j 0)) (ns.length - 1)) (by lia))
      rw [e] at k1
      exact Int.le_antisymm k1 k2
    refine ⟨.int _, H, I.chg fun b o e => k b o ?_ (Heap.get?_push_of_some _ e), ⟨t, by rw [hm]⟩, q⟩
    intro z
    have z' : b = s.heap.objs.size := by simpa using z
    exact absurd (Heap.lt_size e) (by rw [z']; exact Nat.lt_irrefl _)
theorem call_maxI {X : Cx} (hc : X.calm = true) : CallR X (.builtin "max") (fun xs H Q => ∃ (p : Addr) (ns : List Int), xs = [.ref p] ∧ SqL X.K H p (ns.map V.int) ∧ 0 < ns.length ∧ Q (.int (maxI ns)) H) := by
  intro pins s σ H xs us Q I r h
  obtain ⟨p, ns, rfl, hq, hb, q⟩ := h
  obtain ⟨u, rfl, ru⟩ := r.one
  cases ru
  obtain ⟨its, rv, pl, hz⟩ := I.list hq
  have hlen : its.length = ns.length := by rw [← rv.length, List.length_map]
  have hh : X.A.in1.handled = none := I.ok.hd hc
  refine call_max_walk (wpAny_pyIter_list pl.isList ?_)
  have hne : p ≠ s.heap.objs.size := Nat.ne_of_lt (by obtain ⟨o, e, _⟩ := pl.isList; exact Heap.lt_size e)
  have hval : ∀ (i : Nat) v, its.toArray[i]? = some v → ∃ t, v = Value.int (ns.getD i 0) t := fun i v hi => vals_intAt rv i v (by simpa using hi)
  refine ⟨s.heap.objs.size, [s.heap.objs.size, p], [s.heap.objs.size], its.toArray.size, fun i v => its.toArray[i]? = some v, _, _, rfl, Walks.list hh s.heap.objs.size p hne _, ⟨?_, ?_⟩, ?_, by rw [List.size_toArray, hlen]; exact hb, CmpOf.ints_gt (fun i => ns.getD i 0) hval, fun v h' tk hP k => ?_⟩
  · exact ⟨_, Heap.get?_push_size _ rfl, rfl, rfl⟩
  · obtain ⟨o, e, r⟩ := pl.isList
    exact ⟨o, Heap.get?_push_of_some _ e, r⟩
  · intro b hb
    rcases List.mem_cons.mp hb with e | hb
    · rw [e]; exact Heap.lt_size (Heap.get?_push_size s.heap rfl)
    · rw [List.mem_singleton.mp hb]
      obtain ⟨o, e, _⟩ := pl.isList
      exact Heap.lt_size (Heap.get?_push_of_some _ e)
  · rw [List.size_toArray, hlen] at hP
    obtain ⟨t, rfl⟩ := hval _ _ hP
    obtain ⟨z1, z2⟩ := argBest_gt (fun i => ns.getD i 0) (ns.length - 1)
    have hm : ns.getD (argBest (fun i j => decide (ns.getD i 0 > ns.getD j 0)) (ns.length - 1)) 0 = maxI ns := by
      obtain ⟨w1, w2⟩ := maxI_spec (ns := ns) (by intro e; rw [e] at hb; cases hb)
      obtain ⟨i, hi, e⟩ := mem_getD w1
      have k1 := z2 i (by lia)
      have k2 := w2 _ (getD_mem (ns := ns) (i := argBest (fun i j => decide (ns.getD i 0 > ns.getD j 0)) (ns.length - 1)) (by lia))
      rw [e] at k1
      exact Int.le_antisymm k2 k1
    refine ⟨.int _, H, I.chg fun b o e => k b o ?_ (Heap.get?_push_of_some _ e), ⟨t, by rw [hm]⟩, q⟩
    intro z
    have z' : b = s.heap.objs.size := by simpa using z
    exact absurd (Heap.lt_size e) (by rw [z']; exact Nat.lt_irrefl _)
noncomputable instance callMinI (ns : List Int) : CallD (.builtin "min") [.list (ns.map .int)] (.int (minI ns)) (0 < ns.length) := ⟨fun h {X} hc _ => ⟨_, call_minI hc, fun xs H Q rx q => by
  obtain ⟨x, rfl, r1⟩ := rx.one
  obtain ⟨a, ys, rfl, h1, h2⟩ := r1.toList
  have e := h2.of_ints
  subst e
  exact ⟨a, ns, rfl, h1.sq, h, q _ H (Same.refl H) (.int _)⟩⟩⟩
noncomputable instance callMaxI (ns : List Int) : CallD (.builtin "max") [.list (ns.map .int)] (.int (maxI ns)) (0 < ns.length) := ⟨fun h {X} hc _ => ⟨_, call_maxI hc, fun xs H Q rx q => by
  obtain ⟨x, rfl, r1⟩ := rx.one
  obtain ⟨a, ys, rfl, h1, h2⟩ := r1.toList
  have e := h2.of_ints
  subst e
  exact ⟨a, ns, rfl, h1.sq, h, q _ H (Same.refl H) (.int _)⟩⟩⟩
end L2

set_option Elab.async false
set_option linter.all false
set_option maxRecDepth 100000
set_option maxHeartbeats 4000000
/-! in a tuple; where a number stands in a tuple -/
namespace L2
open PySem PySem.Spec PyProof.Rows
open AutoSeq1 (wpAny_loadPart')
section
variable {X : Cx}
end
theorem any_int (n : Int) : ∀ ns : List Int, ((ns.map PyData.int).any fun y => PyData.eqv y (.int n)) = decide (n ∈ ns)
  | [] => by simp
  | m :: r => by
    rw [List.map_cons, List.any_cons, any_int n r, eqv_int]
    by_cases h : m = n
    · simp [h]
    · have h' : ¬ n = m := fun e => h e.symm
      simp [h, h']
end L2

set_option Elab.async false
set_option linter.all false
set_option maxRecDepth 100000
set_option maxHeartbeats 4000000
/-! a module's dict of signs; texts of two things shown -/
namespace L2
open PySem PySem.Spec PyProof.Rows
inductive CEnts (w : World) (K : PySem.W.Frag) : List DictEntry → List (Nat × List Int) → Prop
  | nil : CEnts w K [] []
  | cons {e : DictEntry} {c : Nat} {ns : List Int} {es : List DictEntry} {kvs : List (Nat × List Int)} {t : Tok} {p : Addr} : e.hash = hashStr w (tx [c]) → e.key = .str (tx [c]) t → e.val = .ref p → (∀ H : Hp, SqT K H p (ns.map V.int)) → CEnts w K es kvs → CEnts w K (e :: es) ((c, ns) :: kvs)
/-- a module's dict: signs to tuples of numbers -/
noncomputable def CDict (w : World) (K : PySem.W.Frag) (a : Addr) (kvs : List (Nat × List Int)) : Prop := (a == sysModules) = false ∧ (kvs.map (·.1)).Nodup ∧ ∃ o es ep, K.lookup a = some o ∧ o.ExactDict ∧ o.data = .dict es ep ∧ CEnts w K es.toList kvs
noncomputable def cAt (kvs : List (Nat × List Int)) (c : Nat) : Option (List Int) := (kvs.find? fun x => decide (x.1 = c)).map (·.2)
theorem tx1 {c d : Nat} : tx [c] = tx [d] ↔ c = d := ⟨fun e => by injection e with e; simpa using congrArg Array.toList e, fun e => e ▸ rfl⟩
theorem CEnts.pairs {prog : Program} {w : World} {K : PySem.W.Frag} : ∀ {es : List DictEntry} {kvs : List (Nat × List Int)}, CEnts w K es kvs → ∃ ps : List (Str × Value), Pairs (strKind prog w) es ps ∧ (∀ e ∈ es, ∃ k, (strKind prog w).is k e.key = true ∧ e.hash = (strKind prog w).hash k) ∧ ps.map (·.1) = kvs.map (fun x => tx [x.1]) ∧
    ∀ c, (cAt kvs c = none ∧ valueAt ps (tx [c]) = none) ∨ ∃ ns p, cAt kvs c = some ns ∧ valueAt ps (tx [c]) = some (.ref p) ∧ ∀ H : Hp, SqT K H p (ns.map V.int)
  | _, _, .nil => ⟨[], .nil, (fun e h => by cases h), rfl, fun c => .inl ⟨rfl, rfl⟩⟩
  | _, _, .cons (e := e) (c := c0) (ns := ns) (es := es) (kvs := kvs) (p := p) h1 h2 h3 h4 r => by
    obtain ⟨ps, q1, q2, q3, q4⟩ := CEnts.pairs (prog := prog) r
    refine ⟨(tx [c0], .ref p) :: ps, .cons (by rw [h2]; exact strKind_is _ _ _ _) h3 q1, fun x hx => ?_, by rw [List.map_cons, List.map_cons, q3], fun c => ?_⟩
    · rcases List.mem_cons.mp hx with rfl | hx
      · exact ⟨tx [c0], by rw [h2]; exact strKind_is _ _ _ _, h1⟩
      · exact q2 x hx
    · by_cases hc : c0 = c
      · subst hc
        refine .inr ⟨ns, p, ?_, ?_, h4⟩
        · unfold cAt; rw [List.find?_cons_of_pos (by simp)]; rfl
        · unfold valueAt; rw [List.find?_cons_of_pos (by simp)]; rfl
      · have e1 : cAt ((c0, ns) :: kvs) c = cAt kvs c := by unfold cAt; rw [List.find?_cons_of_neg (by simpa using hc)]
        have e2 : valueAt ((tx [c0], .ref p) :: ps) (tx [c]) = valueAt ps (tx [c]) := by unfold valueAt; rw [List.find?_cons_of_neg (by simpa [tx1] using hc)]
        rw [e1, e2]
        exact q4 c
theorem CDict.ex {X : Cx} {pins : List (Addr × Obj)} {σ : St} {H : Hp} {s : Shared} {a : Addr} {kvs : List (Nat × List Int)} (I : Inv X pins σ H s) (h : CDict X.w X.K a kvs) : ∃ ps : List (Str × Value), s.heap.DictOf (strKind X.prog X.w) a ps ∧ ∀ c, (cAt kvs c = none ∧ valueAt ps (tx [c]) = none) ∨ ∃ ns p, cAt kvs c = some ns ∧ valueAt ps (tx [c]) = some (.ref p) ∧ ∀ H : Hp, SqT X.K H p (ns.map V.int) := by
  obtain ⟨_, hn, o, es, ep, e1, e2, e3, e4⟩ := h
  obtain ⟨ps, q1, q2, q3, q4⟩ := e4.pairs (prog := X.prog)
  refine ⟨ps, ⟨o, es, ep, I.kIn a o e1, e2, e3, fun e he => q2 e (by simpa using he), q1, ?_⟩, q4⟩
  rw [q3]
  have : kvs.map (fun x => tx [x.1]) = (kvs.map (·.1)).map (fun c => tx [c]) := by rw [List.map_map]; rfl
  rw [this]
  exact List.pairwise_map.mpr (List.Pairwise.imp (fun h e => h (tx1.mp e)) hn)
section
variable {X : Cx} {a : Addr} {kvs : List (Nat × List Int)}
theorem op_notInC (h : CDict X.w X.K a kvs) : OpR X (compareOp .NotIn) (fun x y H Q => ∃ c, x = .str (tx [c]) ∧ y = .ref a ∧ Q (.bl (!(cAt kvs c).isSome)) H) := by
  intro pins s σ H x y v u Q I rx ry hh
  obtain ⟨c, rfl, rfl, q⟩ := hh
  obtain ⟨t, rfl⟩ := rx
  cases ry
  obtain ⟨ps, hd, hq⟩ := h.ex I
  refine wpAny_notIn_of (knd := strKind X.prog X.w) (strKind_is _ _ _ _) h.1 hd.mapOf ⟨.bl _, H, I.tok _, rfl, ?_⟩
  have e : (valueAt ps (tx [c])).isSome = (cAt kvs c).isSome := by
    rcases hq c with ⟨e1, e2⟩ | ⟨ns, p, e1, e2, _⟩ <;> rw [e1, e2] <;> rfl
  rw [e]; exact q
theorem ix_C (h : CDict X.w X.K a kvs) : IxR X (fun x y H Q => ∃ c ns, x = .ref a ∧ y = .str (tx [c]) ∧ cAt kvs c = some ns ∧ ∀ p, SqT X.K H p (ns.map V.int) → Q (.ref p) H) := by
  intro value slice pins s σ H x y v u Q I rx ry hh hs
  obtain ⟨c, ns, rfl, rfl, hc, q⟩ := hh
  cases rx
  obtain ⟨t, rfl⟩ := ry
  obtain ⟨ps, hd, hq⟩ := h.ex I
  rcases hq c with ⟨e1, e2⟩ | ⟨ns', p, e1, e2, e3⟩
  · rw [hc] at e1; cases e1
  · rw [hc] at e1; cases e1
    exact subscriptTail_builtinR (x := .ref p) hd.typeIs PySem.slot_dict_getitem.lookup (wpAny_getItem_of (knd := strKind X.prog X.w) (Q := fun r s' => r = .ref p ∧ EP X pins σ Q r s') (strKind_is _ _ _ _) hd.mapOf e2 ⟨rfl, .ref p, H, I.tok _, rfl, q p (e3 H)⟩) hs
variable {m : Md} {env : Nv} {own : Own} {g : Str} {e : Expr} {gp pos : Pos} {c : Nat} {ns : List Int}
/-- e not in G, G a module's dict of signs -/
theorem evt_notInC (hg : Gl X g) (hm : X.mg g = some (.ref a)) (h : CDict X.w X.K a kvs) (he : Ev .any X env own e (.str (tx [c]))) (hdb : (g == ("__debug__" : Str)) = false := by decide) (hmk : behindInMarks .NotIn (.Name g gp) = false := by with_unfolding_all rfl) : EvT X env own (.Compare e [.NotIn] [.Name g gp] pos) (!(cAt kvs c).isSome) := ⟨fun pins s σ H Q I ⟨H0, Z, q⟩ => by
  refine pt_cmpR (op_notInC h) he.h (pe_glob (v := .ref a) hg hm rfl hdb) hmk pins s σ H Q I ⟨H0, Z, fun x H1 s1 r1 => ?_⟩
  exact ⟨c, r1.toStr, rfl, _, rfl, q H1 s1⟩⟩
/-- G[e] -/
theorem ev_ixC (hg : Gl X g) (hm : X.mg g = some (.ref a)) (h : CDict X.w X.K a kvs) (he : Ev .any X env own e (.str (tx [c]))) (hc : cAt kvs c = some ns) (hp : PlainIx e := by exact fun _ _ => rfl) (hdb : (g == ("__debug__" : Str)) = false := by decide) : Ev m X env own (.Subscript (.Name g gp) e pos) (.tuple (ns.map PyData.int)) :=
  Ev.of (pe_ix (ix_C h) (pe_glob (v := .ref a) hg hm rfl hdb) he.h hp) fun σ H Q ⟨H0, Z, q⟩ => ⟨H0, Z, fun w H1 s1 r1 => ⟨c, ns, rfl, r1.toStr, hc, fun p hp => q _ H1 s1 (.tup hp (RepAll.ints ns))⟩⟩
end
/-! ### a text in a tuple of texts; == of lists of texts -/
theorem op_inTS {X : Cx} : OpR X (compareOp .In) (fun x y H Q => ∃ (z : Str) (a : Addr) (ys : List Str), x = .str z ∧ y = .ref a ∧ SqT X.K H a (ys.map V.str) ∧ Q (.bl (ys.any (· == z))) H) := by
  intro pins s σ H x y v u Q I rx ry h
  obtain ⟨z, a, ys, rfl, rfl, hq, q⟩ := h
  obtain ⟨t, rfl⟩ := rx
  cases ry
  obtain ⟨its, rv, ht, _⟩ := I.tuple hq
  exact in_tuple_strs ht (by simpa using strs_are rv) ⟨.bl _, H, I, rfl, q⟩
theorem any_txs (l : List Nat) : ∀ ls : List (List Nat), ((ls.map tx).any (· == tx l)) = decide (l ∈ ls)
  | [] => by simp
  | m :: r => by
    have e : (tx m == tx l) = decide (l = m) := by
      rw [Bool.beq_eq_decide_eq, tx_inj]
      by_cases h : m = l
      · rw [decide_eq_true h, decide_eq_true h.symm]
      · rw [decide_eq_false h, decide_eq_false fun w => h w.symm]
    rw [List.map_cons, List.any_cons, any_txs l r, e]
    by_cases h : l = m <;> simp [h]
/-- texts, by their signs -/
class TxL (ds : List PyData) (ls : outParam (List (List Nat))) : Prop where
  eq : ds = ls.map fun l => .str (tx l)
noncomputable instance txLnil : TxL [] [] := ⟨rfl⟩
noncomputable instance txLcons (l : List Nat) (ds : List PyData) (ls : List (List Nat)) [h : TxL ds ls] : TxL (.str (tx l) :: ds) (l :: ls) := ⟨by rw [h.eq]; rfl⟩
noncomputable instance cmpInTS (l : List Nat) (ds : List PyData) (ls : List (List Nat)) [h : TxL ds ls] : CmpD .In (.str (tx l)) (.tuple ds) (decide (l ∈ ls)) True := ⟨fun _ {X} hu => ⟨_, op_inTS, fun x y H Q rx ry q => by
  obtain ⟨a, xs, rfl, h1, h2⟩ := ry.toTup
  rw [h.eq] at h2
  have e : (ls.map fun l => PyData.str (tx l)) = (ls.map tx).map PyData.str := by rw [List.map_map]; rfl
  rw [e] at h2
  have e2 := h2.of_strs
  subst e2
  exact ⟨tx l, a, ls.map tx, rx.toStr, rfl, h1, by rw [any_txs]; exact q⟩⟩⟩
theorem shpTx {n : Nat} {l : List Nat} (h : ∀ c ∈ l, c < 128) : Shp n (.str (tx l)) := ⟨by
  show (tx l).cps.all (· < 0x110000) = true
  rw [Array.all_eq_true_iff_forall_mem]
  intro x hx
  have := h x (by simpa using hx)
  exact decide_eq_true (by lia), Nat.zero_le _⟩
theorem shpTxs {n : Nat} : ∀ {ls : List (List Nat)}, (∀ l ∈ ls, ∀ c ∈ l, c < 128) → ShpL n (ls.map fun l => PyData.str (tx l))
  | [], _ => ⟨rfl, Nat.zero_le _⟩
  | l :: r, h => @shpCons _ _ _ (shpTx (h l List.mem_cons_self)) (shpTxs fun x hx => h x (List.mem_cons_of_mem _ hx))
theorem eqv_tx (a b : List Nat) : PyData.eqv (.str (tx a)) (.str (tx b)) = decide (a = b) := by rw [eqv_str, tx_inj]
noncomputable instance (priority := high) cmpNeTxs (xs ys : List (List Nat)) : CmpD .NotEq (.list (xs.map fun l => PyData.str (tx l))) (.list (ys.map fun l => PyData.str (tx l))) (!decide (xs = ys)) ((∀ l ∈ xs, ∀ c ∈ l, c < 128) ∧ ∀ l ∈ ys, ∀ c ∈ l, c < 128) := ⟨fun h {_} hu => by
  have q : PyData.eqv (.list (xs.map fun l => PyData.str (tx l))) (.list (ys.map fun l => PyData.str (tx l))) = decide (xs = ys) := eqv_all eqv_tx xs ys
  have := shpTxs (n := 8) h.1
  have := shpTxs (n := 8) h.2
  rw [← q]; exact (cmpNe _ _).ok trivial hu⟩
/-! ### + and slices of lists whose items never change -/
section
variable {X : Cx} {m : Md} {env : Nv} {own : Own} {a b : Expr} {pos p2 : Pos}
end
/-! ### f'text {x!r} text {y!r}' -/
section
variable {X : Cx} {pins : List (Addr × Obj)} {σ : St} {R : Str → Shared → Prop} {acc : Str} {rest : List Expr}
end
section
variable {X : Cx} {D : Ends} {rest : List Stmt} {env : Nv} {own : Own} {d d' : PyData} {e e' : Expr} {H0 H : Hp} {σ : St} {pos : Pos}
end
end L2

set_option Elab.async false
set_option linter.all false
set_option maxRecDepth 100000
set_option maxHeartbeats 4000000
/-! what can be shown; floors -/
namespace L2
open PySem PySem.Spec PyProof.Rows
structure Shw (k n : Nat) (d : PyData) : Prop where
  s : d.showable = true
  nd : d.hasDict = false
  p : d.depth ≤ k
  l : d.shown.length ≤ n
structure ShwL (k n : Nat) (ds : List PyData) : Prop where
  s : PyData.showableAll ds = true
  nd : PyData.hasDictAll ds = false
  p : PyData.depthAll ds ≤ k
  l : ((PyData.shownAll ds).map (·.length)).sum ≤ n
  c : (PyData.shownAll ds).length = ds.length
theorem ShwL.nil {k : Nat} : ShwL k 0 [] := ⟨rfl, rfl, Nat.zero_le _, Nat.le_refl _, rfl⟩
theorem ShwL.cons {k n m : Nat} {d : PyData} {ds : List PyData} (h : Shw k n d) (t : ShwL k m ds) : ShwL k (n + m) (d :: ds) := by
  refine ⟨?_, ?_, ?_, ?_, ?_⟩
  · show (d.showable && PyData.showableAll ds) = true
    rw [h.s, t.s]; rfl
  · show (d.hasDict || PyData.hasDictAll ds) = false
    rw [h.nd, t.nd]; rfl
  · rw [depth_cons]; exact Nat.max_le.mpr ⟨h.p, t.p⟩
  · show d.shown.length + ((PyData.shownAll ds).map (·.length)).sum ≤ n + m
    have := h.l; have := t.l; lia
  · show (PyData.shownAll ds).length + 1 = ds.length + 1
    rw [t.c]
theorem ShwL.all {k n : Nat} : ∀ {ds : List PyData}, (∀ d ∈ ds, Shw k n d) → ShwL k (n * ds.length) ds
  | [], _ => .nil
  | d :: r, h => by
    have := ShwL.cons (h d List.mem_cons_self) (ShwL.all fun x hx => h x (List.mem_cons_of_mem _ hx))
    rw [List.length_cons, Nat.mul_succ, Nat.add_comm]
    exact this
theorem Shw.tup {k n : Nat} {ds : List PyData} (h : ShwL k n ds) : Shw (k + 1) (n + 2 * ds.length + 3) (.tuple ds) := by
  refine ⟨h.s, h.nd, Nat.succ_le_succ h.p, ?_⟩
  have e := tupleText_len_le (PyData.shownAll ds)
  rw [h.c] at e
  have := h.l
  show (tupleText (PyData.shownAll ds)).length ≤ _
  lia
theorem Shw.lst {k n : Nat} {ds : List PyData} (h : ShwL k n ds) : Shw (k + 1) (n + 2 * ds.length + 3) (.list ds) := by
  refine ⟨h.s, h.nd, Nat.succ_le_succ h.p, ?_⟩
  have e := listText_len_le (PyData.shownAll ds)
  rw [h.c] at e
  have := h.l
  show (listText (PyData.shownAll ds)).length ≤ _
  lia
theorem Shw.int {k : Nat} {i : Int} (h : -100000 ≤ i ∧ i ≤ 100000) : Shw k 10 (.int i) := ⟨decide_eq_true (small_log h), rfl, Nat.zero_le _, small_text h⟩
theorem Shw.mono {k n k' n' : Nat} {d : PyData} (h : Shw k n d) (hk : k ≤ k') (hn : n ≤ n') : Shw k' n' d := ⟨h.s, h.nd, Nat.le_trans h.p hk, Nat.le_trans h.l hn⟩
theorem Shw.txt {k : Nat} {l : List Nat} (h : ∀ c ∈ l, c < 128) : Shw k (10 * l.length + 2) (.str (tx l)) := by
  refine ⟨rfl, rfl, Nat.zero_le _, ?_⟩
  have e : (reprText (tx l)).length ≤ 10 * (tx l).length + 2 := PySem.StrLaws.reprText_len (tx l) (fun c hc => by
    have : c ∈ l := by simpa using hc
    have := h c this
    lia)
  rw [tx_len l] at e
  exact e
end L2
namespace Die
open PySem L2
noncomputable abbrev Fl := List (List Nat)
noncomputable abbrev txD (r : List Nat) : PyData := .str (tx r)
noncomputable abbrev flD (fl : Fl) : PyData := .list (List.map txD fl)
/-- what may be handed in as a floor -/
structure FlB (fl : Fl) : Prop where
  len : fl.length ≤ 60
  row : ∀ r ∈ fl, r.length ≤ 60 ∧ ∀ c ∈ r, c < 128
theorem FlB.show {fl : Fl} (h : FlB fl) (k : Nat) (hk : k ≤ 1000) : (flD fl).showable = true ∧ (flD fl).hasDict = false ∧ (flD fl).depth ≤ 60 ∧ (flD fl).shown.length + k ≤ 100000 := by
  have a : ShwL 0 (602 * (fl.map txD).length) (fl.map txD) := ShwL.all fun d hd => by
    obtain ⟨r, hr, rfl⟩ := List.mem_map.mp hd
    obtain ⟨h1, h2⟩ := h.row r hr
    exact (Shw.txt h2).mono (Nat.le_refl _) (by lia)
  have b := Shw.lst a
  have := h.len
  refine ⟨b.s, b.nd, Nat.le_trans b.p (by decide), ?_⟩
  have e := b.l
  rw [List.length_map] at e
  show (PyData.list (fl.map txD)).shown.length + k ≤ _
  lia
noncomputable def isSign (c : Nat) : Bool := c == 46 || c == 35
noncomputable def isRow (w : Nat) (r : List Nat) : Bool := decide (r.length = w) && r.all isSign
noncomputable def width (fl : Fl) : Nat := (fl.getD 0 default).length
noncomputable def isFloor (fl : Fl) : Bool := decide (1 ≤ fl.length) && decide (fl.length ≤ 8) && (decide (1 ≤ width fl) && decide (width fl ≤ 8) && fl.all (isRow (width fl)))
/-- the sign at a place -/
noncomputable def signAt (fl : Fl) (r c : Int) : Nat := (fl.getD r.toNat default).getD c.toNat 0
noncomputable def isCell (fl : Fl) (r c : Int) : Bool := if 0 ≤ r ∧ r < (fl.length : Int) then (if 0 ≤ c ∧ c < ((fl.getD r.toNat default).length : Int) then signAt fl r c == 46 else false) else false
/-! ### a law's floor -/
noncomputable def lsgn (c : Int) (rare : Int) (i j : Nat) : Nat := ([46, 35] : List Nat).getD (if decide (lmix c (10 * (i : Int) + (j : Int)) / 7 % rare = 0) = true then (1 : Int) else 0).toNat 0
noncomputable def lrow (c rare : Int) (i n : Nat) : List Nat := (List.range n).map (lsgn c rare i)
noncomputable def lfl (c rare : Int) (m n : Nat) : Fl := (List.range m).map fun i => lrow c rare i n
noncomputable def lrare (c : Int) : Int := ([2, 4, 9, 99] : List Int).getD (c / 64 % 4).toNat default
noncomputable def lfloor (ns : List Int) (st most : Int) : Fl := lfl (ns.getD (st + 1).toNat 0) (lrare (ns.getD st.toNat 0)) (1 + ns.getD st.toNat 0 % most).toNat (1 + ns.getD st.toNat 0 / 8 % most).toNat
theorem lrare_pos (c : Int) : 0 < lrare c := by
  have h : c / 64 % 4 = 0 ∨ c / 64 % 4 = 1 ∨ c / 64 % 4 = 2 ∨ c / 64 % 4 = 3 := by lia
  unfold lrare
  rcases h with h | h | h | h <;> rw [h] <;> decide
theorem lsgn_sign (c rare : Int) (i j : Nat) : isSign (lsgn c rare i j) = true := by
  unfold lsgn
  split <;> decide
theorem lrow_succ (c rare : Int) (i n : Nat) : lrow c rare i (n + 1) = lrow c rare i n ++ [lsgn c rare i n] := by
  unfold lrow; rw [List.range_succ, List.map_append]; rfl
theorem lfl_succ (c rare : Int) (m n : Nat) : lfl c rare (m + 1) n = lfl c rare m n ++ [lrow c rare m n] := by
  unfold lfl; rw [List.range_succ, List.map_append]; rfl
theorem lrow_len (c rare : Int) (i n : Nat) : (lrow c rare i n).length = n := by simp [lrow]
theorem lfl_len (c rare : Int) (m n : Nat) : (lfl c rare m n).length = m := by simp [lfl]
theorem sign_ascii {c : Nat} (h : isSign c = true) : c < 128 := by
  unfold isSign at h
  simp at h
  lia
/-- a floor of a law -/
structure LFl (b : Nat) (fl : Fl) : Prop where
  n1 : 1 ≤ fl.length
  n8 : fl.length ≤ b
  w1 : 1 ≤ width fl
  w8 : width fl ≤ b
  rows : ∀ r ∈ fl, r.length = width fl ∧ r.all isSign = true
theorem LFl.isFloor {b : Nat} {fl : Fl} (h : LFl b fl) (hb : b ≤ 8) : isFloor fl = true := by
  have := h.n8; have := h.w8
  unfold Die.isFloor
  rw [decide_eq_true h.n1, decide_eq_true (show fl.length ≤ 8 by lia), decide_eq_true h.w1, decide_eq_true (show width fl ≤ 8 by lia)]
  rw [Bool.true_and, Bool.true_and, Bool.true_and, List.all_eq_true]
  intro r hr
  unfold isRow
  obtain ⟨h1, h2⟩ := h.rows r hr
  rw [decide_eq_true h1, h2]
  rfl
theorem LFl.flB {b : Nat} {fl : Fl} (h : LFl b fl) (hb : b ≤ 60) : FlB fl := ⟨Nat.le_trans h.n8 hb, fun r hr => by
  obtain ⟨h1, h2⟩ := h.rows r hr
  have := h.w8
  exact ⟨by lia, fun c hc => sign_ascii (List.all_eq_true.mp h2 c hc)⟩⟩
theorem lfl_ok (c rare : Int) {m n b : Nat} (h1 : 1 ≤ m ∧ m ≤ b) (h2 : 1 ≤ n ∧ n ≤ b) : LFl b (lfl c rare m n) := by
  have hw : width (lfl c rare m n) = n := by
    unfold width lfl
    obtain ⟨k, rfl⟩ : ∃ k, m = k + 1 := ⟨m - 1, by lia⟩
    rw [List.range_succ_eq_map]
    exact lrow_len _ _ _ _
  refine ⟨by rw [lfl_len]; exact h1.1, by rw [lfl_len]; exact h1.2, by rw [hw]; exact h2.1, by rw [hw]; exact h2.2, fun r hr => ?_⟩
  obtain ⟨i, _, rfl⟩ := List.mem_map.mp hr
  refine ⟨by rw [hw]; exact lrow_len _ _ _ _, ?_⟩
  unfold lrow
  rw [List.all_map, List.all_eq_true]
  intro j _
  exact lsgn_sign _ _ _ _
theorem lfloor_ok (ns : List Int) (st : Int) {most : Int} {b : Nat} (hm : 1 ≤ most) (hb : most ≤ b) : LFl b (lfloor ns st most) := by
  have a1 := Int.emod_nonneg (ns.getD st.toNat 0) (show most ≠ 0 by lia)
  have a2 := Int.emod_lt_of_pos (ns.getD st.toNat 0) (show 0 < most by lia)
  have b1 := Int.emod_nonneg (ns.getD st.toNat 0 / 8) (show most ≠ 0 by lia)
  have b2 := Int.emod_lt_of_pos (ns.getD st.toNat 0 / 8) (show 0 < most by lia)
  exact lfl_ok _ _ (by lia) (by lia)
end Die
namespace Die
open PySem L2
noncomputable abbrev Pl := Int × Int
noncomputable abbrev Std := Pl × List Int
noncomputable abbrev plD (p : Pl) : PyData := .tuple [.int p.1, .int p.2]
noncomputable abbrev stD (s : Std) : PyData := .tuple [plD s.1, lieD s.2]
noncomputable def smallP (p : Pl) : Prop := (-10000 ≤ p.1 ∧ p.1 ≤ 10000) ∧ (-10000 ≤ p.2 ∧ p.2 ≤ 10000)
theorem Shw.pl {p : Pl} (h : smallP p) : Shw 1 27 (plD p) := Shw.tup (ShwL.cons (k := 0) (n := 10) (Shw.int (by have := h.1; lia)) (ShwL.cons (m := 0) (n := 10) (Shw.int (by have := h.2; lia)) ShwL.nil))
/-- how far a roll leads -/
noncomputable def stepOf (c : Nat) : Pl := if c = 101 then (0, 1) else if c = 110 then (-1, 0) else if c = 115 then (1, 0) else (0, -1)
noncomputable def goP (p : Pl) (c : Nat) : Pl := (p.1 + (stepOf c).1, p.2 + (stepOf c).2)
noncomputable def steps : List (Nat × List Int) := [(101, [0, 1]), (110, [-1, 0]), (115, [1, 0]), (119, [0, -1])]
theorem steps_at {c : Nat} (h : isRoll c = true) : cAt steps c = some [(stepOf c).1, (stepOf c).2] := by
  unfold isRoll at h
  simp at h
  rcases h with ((h | h) | h) | h <;> subst h <;> rfl
theorem steps_is (c : Nat) : (cAt steps c).isSome = isRoll c := by
  by_cases h : isRoll c = true
  · rw [steps_at h, h]; rfl
  · have h' : isRoll c = false := by simpa using h
    rw [h']
    unfold isRoll at h
    simp at h
    unfold cAt steps
    have : ¬ 101 = c ∧ ¬ 110 = c ∧ ¬ 115 = c ∧ ¬ 119 = c := by lia
    simp [this]
/-- the stand behind a roll, if it can be done -/
noncomputable def nx (fl : Fl) (s : Std) (c : Nat) : Option Std := if isRoll c = true ∧ isCell fl (goP s.1 c).1 (goP s.1 c).2 = true then some (goP s.1 c, roll1 c s.2) else none
noncomputable def nxD (o : Option Std) : PyData := match o with
  | none => .none
  | some s => stD s
theorem cell_small {fl : Fl} {p : Pl} (hb : FlB fl) (h : isCell fl p.1 p.2 = true) : 0 ≤ p.1 ∧ p.1 < 60 ∧ 0 ≤ p.2 ∧ p.2 < 60 := by
  have h1 := hb.len
  unfold isCell at h
  split at h
  · rename_i hr
    split at h
    · rename_i hc
      have hm : fl.getD p.1.toNat default ∈ fl := by
        rw [List.getD_eq_getElem?_getD, List.getElem?_eq_getElem (by lia)]
        exact List.getElem_mem _
      have := (hb.row _ hm).1
      lia
    · cases h
  · cases h
/-- walked along -/
noncomputable def walk (fl : Fl) : List Nat → Std → Option Std
  | [], s => some s
  | c :: r, s => (nx fl s c).bind (walk fl r)
theorem walk_snoc (fl : Fl) : ∀ (l : List Nat) (c : Nat) (s : Std), walk fl (l ++ [c]) s = (walk fl l s).bind fun t => nx fl t c
  | [], c, s => by simp [walk]
  | a :: r, c, s => by
    show (nx fl s a).bind (walk fl (r ++ [c])) = ((nx fl s a).bind (walk fl r)).bind _
    cases nx fl s a with
    | none => rfl
    | some t => exact walk_snoc fl r c t
/-- a stand on the floor -/
structure On (fl : Fl) (s : Std) : Prop where
  cell : isCell fl s.1.1 s.1.2 = true
  len : s.2.length = 3
  lie : isLie s.2 = true
theorem On.nx {fl : Fl} {s t : Std} {c : Nat} (h : On fl s) (e : Die.nx fl s c = some t) : On fl t := by
  unfold Die.nx at e
  split at e
  · rename_i hc
    cases e
    exact ⟨hc.2, roll1_len h.len, roll1_lie h.len h.lie⟩
  · cases e
theorem On.smallP {fl : Fl} {s : Std} (h : On fl s) (hb : FlB fl) : smallP s.1 := by
  have := cell_small hb h.cell
  unfold Die.smallP
  lia
end Die
namespace Die
open PySem L2
/-! ### places in lists -/
theorem eqv_pl (a b : Pl) : PyData.eqv (plD a) (plD b) = decide (a = b) := by
  have e := eqv_ints [a.1, a.2] [b.1, b.2]
  have e2 : decide ([a.1, a.2] = [b.1, b.2]) = decide (a = b) := by
    congr 1
    simp only [eq_iff_iff]
    constructor
    · intro h
      obtain ⟨h1, h2⟩ := List.cons.inj h
      exact Prod.ext h1 (List.cons.inj h2).1
    · intro h; rw [h]
  rw [← e2]
  exact e
/-! ### the cells of a floor, as a law finds them -/
noncomputable def cellsRow (fl : Fl) (i : Nat) : List Pl := ((List.range (width fl)).filter fun j : Nat => decide ([signAt fl (i : Int) (j : Int)] = [46])).map fun j : Nat => ((i : Int), (j : Int))
noncomputable def cellsTo (fl : Fl) (n : Nat) : List Pl := (List.range n).flatMap (cellsRow fl)
noncomputable def cellsOf (fl : Fl) : List Pl := cellsTo fl fl.length
theorem cellsTo_succ (fl : Fl) (n : Nat) : cellsTo fl (n + 1) = cellsTo fl n ++ cellsRow fl n := by
  unfold cellsTo
  rw [List.range_succ, List.flatMap_append]
  simp
theorem cellsRow_len (fl : Fl) (i : Nat) : (cellsRow fl i).length ≤ width fl := by
  unfold cellsRow
  rw [List.length_map]
  exact Nat.le_trans (List.length_filter_le _ _) (by rw [List.length_range]; exact Nat.le_refl _)
theorem cellsTo_len (fl : Fl) : ∀ n, (cellsTo fl n).length ≤ n * width fl
  | 0 => Nat.zero_le _
  | n + 1 => by
    rw [cellsTo_succ, List.length_append, Nat.succ_mul]
    have := cellsTo_len fl n
    have := cellsRow_len fl n
    lia
theorem LFl.row {b : Nat} {fl : Fl} (h : LFl b fl) {r : Int} (h0 : 0 ≤ r) (h1 : r < (fl.length : Int)) : (fl.getD r.toNat default).length = width fl := by
  have hm : fl.getD r.toNat default ∈ fl := by
    rw [List.getD_eq_getElem?_getD, List.getElem?_eq_getElem (by lia)]
    exact List.getElem_mem _
  exact (h.rows _ hm).1
theorem mem_cells {b : Nat} {fl : Fl} (h : LFl b fl) (p : Pl) : p ∈ cellsOf fl ↔ isCell fl p.1 p.2 = true := by
  obtain ⟨r, c⟩ := p
  unfold cellsOf cellsTo
  rw [List.mem_flatMap]
  constructor
  · rintro ⟨i, hi, hp⟩
    unfold cellsRow at hp
    obtain ⟨j, hj, e⟩ := List.mem_map.mp hp
    obtain ⟨hj1, hj2⟩ := List.mem_filter.mp hj
    cases e
    have hi' : i < fl.length := List.mem_range.mp hi
    have hj' : j < width fl := List.mem_range.mp hj1
    have hr := h.row (r := (i : Int)) (by lia) (by lia)
    unfold isCell
    rw [if_pos ⟨by lia, by lia⟩, if_pos ⟨by lia, by rw [hr]; lia⟩]
    have := of_decide_eq_true hj2
    have := (List.cons.inj this).1
    simpa using this
  · intro hc
    unfold isCell at hc
    split at hc
    · rename_i hr
      split at hc
      · rename_i hcc
        have hw := h.row hr.1 hr.2
        refine ⟨r.toNat, List.mem_range.mpr (by lia), ?_⟩
        unfold cellsRow
        have e1 : ((r.toNat : Nat) : Int) = r := by lia
        have e2 : ((c.toNat : Nat) : Int) = c := by lia
        refine List.mem_map.mpr ⟨c.toNat, List.mem_filter.mpr ⟨List.mem_range.mpr (by rw [hw] at hcc; lia), ?_⟩, by rw [e1, e2]⟩
        rw [e1, e2]
        have : signAt fl r c = 46 := by simpa using hc
        rw [this]
        rfl
      · cases hc
    · cases hc
theorem roll_in {c : Nat} : decide (c ∈ ([101, 110, 115, 119] : List Nat)) = isRoll c := by
  unfold isRoll
  by_cases h1 : c = 101
  · subst h1; rfl
  by_cases h2 : c = 110
  · subst h2; rfl
  by_cases h3 : c = 115
  · subst h3; rfl
  by_cases h4 : c = 119
  · subst h4; rfl
  simp [h1, h2, h3, h4]
end Die

set_option Elab.async false
set_option linter.all false
set_option maxRecDepth 100000
set_option maxHeartbeats 4000000
/-! loops over dicts; an owned list is given up -/
namespace L2
open PySem PySem.Spec PyProof.Rows
noncomputable def Itd (a : Addr) (xs : List DEnt) (ep : Nat) : It := ⟨fun i H => H a = some (DCell a xs ep) ∧ i < xs.length, fun i H v H' => H' = H ∧ ∃ x, xs[i]? = some x ∧ v = .ref x.2.1, fun i H => H a = some (DCell a xs ep) ∧ i = xs.length⟩
theorem cell_raw {X : Cx} {pins : List (Addr × Obj)} {σ : St} {H : Hp} {s : Shared} (I : Inv X pins σ H s) {a : Addr} {xs : List DEnt} {ep : Nat} (h : H a = some (DCell a xs ep)) : ∃ es, RawD s.heap a es ep ∧ es.toList = xs.map entD ∧ es.size = xs.length := by
  obtain ⟨⟨o, es, e1, e2, e3, e4⟩, _⟩ := I.hok a _ h
  exact ⟨es, ⟨o, e1, e2, e3⟩, e4, by rw [← Array.length_toList, e4, List.length_map]⟩
theorem turn_dict {P : Program} {w : World} {K : PySem.W.Frag} {y : Str} {yp : Pos} (a : Addr) (xs : List DEnt) (ep : Nat) (it : Addr) : Turn P w K (.Name y yp) (Itd a xs ep) [it] it (fun i h => h.IsKeyIter it a i xs.length ep) where
  mem := by simp
  obj := fun i h st b hb => by
    have e : b = it := by simpa using hb
    subst e
    obtain ⟨o, e, c, d⟩ := st
    exact ⟨o, e, fun v z => by rw [d] at z; cases z⟩
  keep := fun i h h' st k => by
    obtain ⟨o, e, r⟩ := st
    exact ⟨o, k it (by simp) o e, r⟩
  item := by
    intro X hP hw hK hc i pins s σ H E I hf st hg
    subst hP hw hK
    obtain ⟨hd, hlt⟩ := hg
    obtain ⟨es, hr, he, hz⟩ := cell_raw I hd
    obtain ⟨f0, f1, f2, f3, f4, f5⟩ := hf it (by simp)
    rw [← hz] at st
    have hi : i < es.size := by lia
    refine raw_next st hr hi fun h' st' sb => ⟨_, rfl, wpAny_pure ?_⟩
    have e1 : es.toList[i]? = some es[i] := by rw [Array.getElem?_toList, Array.getElem?_eq_getElem hi]
    rw [he, List.getElem?_map, List.getElem?_eq_getElem hlt] at e1
    have e2 : entD xs[i] = es[i] := Option.some.inj e1
    refine ⟨.ref xs[i].2.1, H, I.turned (t' := s.toks) (fun b o hb e => (sb.2 b hb).trans e) f0 f1 f3 f4 f5, by rw [← e2]; rfl, ⟨rfl, _, List.getElem?_eq_getElem hlt, rfl⟩, by rw [← hz]; exact st', fun b hb => (hf b hb).1⟩
  done := by
    intro X hP hw hK hc i pins s σ H E I hf st hg
    subst hP hw hK
    obtain ⟨hd, rfl⟩ := hg
    obtain ⟨es, hr, he, hz⟩ := cell_raw I hd
    obtain ⟨f0, f1, f2, f3, f4, f5⟩ := hf it (by simp)
    rw [← hz] at st
    exact raw_end (I.ok.hd hc) st hr fun h' eb => ⟨rfl, I.turned (t' := s.toks) (fun b o hb e => eb b o hb e) f0 f1 f3 f4 f5⟩
  self := fun _ _ _ _ _ st h => wpAny_pyIter_keyiter st h
theorem pi_dict {X : Cx} {y : Str} {yp : Pos} {l : Expr} {tl : TE} (hl : PE X l tl) : PI X (.Name y yp) l (fun σ H R => tl σ H fun x H1 => ∃ a xs ep, x = .ref a ∧ (a == sysModules) = false ∧ H1 a = some (DCell a xs ep) ∧ R (Itd a xs ep) H1) := by
  intro pins s σ H R I h
  refine thn (hl pins s σ H _ I h) fun v s1 ⟨x, H1, I1, r1, q1⟩ => ?_
  obtain ⟨a, xs, ep, e, hs, hd, q⟩ := q1
  subst e
  cases r1
  obtain ⟨es, hr, he, hz⟩ := cell_raw I1 hd
  have fp : ∀ b ∈ [s1.heap.objs.size], FpOk X pins H1 b := fun b hb => by
    have e : b = s1.heap.objs.size := by simpa using hb
    subst e
    exact I1.fpOk (Nat.le_refl _) (I1.hok.fresh (Nat.le_refl _))
  refine raw_iter hs hr ⟨s1.heap.objs.size, [s1.heap.objs.size], _, _, H1, rfl, I1.kept (t' := s1.toks) fun b o e => Heap.get?_push_of_some _ e, turn_dict a xs ep _, ?_, fp, q⟩
  rw [← hz]
  exact ⟨_, Heap.get?_push_size _ rfl, rfl, rfl⟩
theorem stepsE_dict {K : PySem.W.Frag} {A : Option Addr → Prop} {H1 : Hp} {a : Addr} {xs : List DEnt} {ep : Nat} (h : H1 a = some (DCell a xs ep)) (hA : A (some a)) : StepsE K A (Itd a xs ep) H1 xs.length (fun i => ((xs[i]?).map fun x => V.ref x.2.1).getD .non) where
  go := fun i H' e hi => ⟨e.dct _ _ _ h hA, hi⟩
  yld := fun i H' x H2 e hi y => by
    obtain ⟨y1, z, y2, y3⟩ := y
    exact ⟨y1, by rw [y2, y3]; rfl⟩
  stop := fun H' e => ⟨e.dct _ _ _ h hA, rfl⟩
theorem evi_dict {X : Cx} {m : Md} {env : Nv} {own : Own} {y : Str} {yp : Pos} {a : Expr} {kvs : List (PyData × PyData)} (h : Ev m X env own a (.dict kvs)) : EvI m X env own (.Name y yp) a (kvs.map (·.1)) := EvI.of (pi_dict h.h) fun σ H R ⟨H0, Z, q⟩ => ⟨H0, Z, fun v H1 s1 r1 => by
  obtain ⟨p, xs, rfl, h1, hA, h2⟩ := r1.toDict
  obtain ⟨ep, h0⟩ := h1.at'
  refine ⟨p, xs, ep, rfl, h1.sm, h0, q _ H1 s1 ⟨fun i => ((xs[i]?).map fun x => V.ref x.2.1).getD .non, ?_, fun i d e => ?_⟩⟩
  · rw [List.length_map, ← h2.length]
    exact stepsE_dict h0 hA
  · obtain ⟨x, e1, e2⟩ := h2.keysAll.get e
    rw [List.getElem?_map] at e1
    show Rep _ _ _ (((xs[i]?).map fun x => V.ref x.2.1).getD .non) d
    rw [e1]
    exact e2⟩
noncomputable instance (priority := high) iterDM {α : Type} (f g : α → PyData) (xs : List α) : IterD (.dict (xs.map fun a => (f a, g a))) (xs.map f) := ⟨fun {m X env own y yp a} h => by have := evi_dict (y := y) (yp := yp) h; rw [List.map_map] at this; exact this⟩
/-! ### an owned list is given up -/
section
variable {K : PySem.W.Frag} {H0 H : Hp} {σ : St} {env : Nv} {own : Own} {a : Addr} {ds : List PyData} {i : Nat}
theorem Sta.give (Z : Sta K H0 H σ env (own ++ [(a, .l ds)])) (hi : env[i]? = some (some (.o own.length))) (ho : ∀ j, j ≠ i → env[j]? ≠ some (some (.o own.length))) : Sta K H0 H σ (env.set i (some (.f (.list ds)))) own := by
  obtain ⟨h0, ys, h1, h2⟩ := Z.ow (a, .l ds) (by simp)
  have hnd := Z.nd
  rw [List.map_append, List.nodup_append] at hnd
  have hna : a ∉ own.map (·.1) := fun h => hnd.2.2 a h a (by simp) rfl
  have hlt : i < env.length := (List.getElem?_eq_some_iff.mp hi).1
  have md : ∀ {m : Md} {o : Option Addr}, m.A (own ++ [(a, .l ds)]) H0 H0 o → m.A own H0 H0 o := fun {m o} z => by
    cases m <;> cases o <;> first | exact z | exact fun h => z (by rw [List.map_append]; exact List.mem_append.mpr (.inl h)) | exact ⟨fun h => z.1 (by rw [List.map_append]; exact List.mem_append.mpr (.inl h)), z.2⟩
  refine ⟨by rw [List.length_set]; exact Z.len, Z.same, fun j s q => ?_, fun p hp => Z.ow p (List.mem_append.mpr (.inl hp)), hnd.1⟩
  by_cases hj : i = j
  · subst hj
    rw [List.getElem?_set_self hlt] at q
    cases q
    obtain ⟨b, c, k1, k2⟩ := Z.sl i _ hi
    rw [List.getElem?_append_right (Nat.le_refl _)] at k1
    simp at k1
    obtain ⟨rfl, rfl⟩ := k1
    exact ⟨_, k2, .lst (.inl ⟨h1, hna, h0⟩) (h2.weak fun _ z => z.elim)⟩
  · rw [List.getElem?_set_ne hj] at q
    have z := Z.sl j s q
    cases s with
    | d u => obtain ⟨v, k1, k2⟩ := z; exact ⟨v, k1, k2.weak fun o w => md w⟩
    | f u => obtain ⟨v, k1, k2⟩ := z; exact ⟨v, k1, k2.weak fun o w => md w⟩
    | o n =>
      obtain ⟨b, c, k1, k2⟩ := z
      have hn : n ≠ own.length := fun e => ho j (fun w => hj w.symm) (by rw [q, e])
      have hl := (List.getElem?_eq_some_iff.mp k1).1
      rw [List.length_append, List.length_singleton] at hl
      exact ⟨b, c, by rwa [List.getElem?_append_left (by lia)] at k1, k2⟩
    | x C => exact z
end
/-! ### d[k] of a dict of plain data -/
section
variable {κ β : Type} [DecidableEq κ] {f : κ → PyData} {g : β → PyData}
end
end L2

set_option Elab.async false
set_option linter.all false
set_option maxRecDepth 100000
set_option maxHeartbeats 4000000
/-! the search, ring by ring: plain mathematics -/
namespace Die
open PySem L2
/-! ### lists of pairs -/
section
variable {κ β : Type} [DecidableEq κ]
theorem lookP_app (m n : List (κ × β)) (k : κ) : lookP (m ++ n) k = (lookP m k).or (lookP n k) := by
  unfold lookP
  rw [List.find?_append]
  cases m.find? fun p => decide (p.1 = k) <;> rfl
theorem lookP_some {m : List (κ × β)} {k : κ} {b : β} (h : lookP m k = some b) : (k, b) ∈ m := by
  unfold lookP at h
  cases e : m.find? fun p => decide (p.1 = k) with
  | none => rw [e] at h; cases h
  | some p =>
    rw [e] at h
    have h1 := List.mem_of_find?_eq_some e
    have h2 := List.find?_some e
    have h2 : p.1 = k := of_decide_eq_true h2
    cases h
    rw [← h2]
    exact h1
theorem lookP_isSome {m : List (κ × β)} {k : κ} : (lookP m k).isSome = true ↔ k ∈ m.map (·.1) := by
  unfold lookP
  rw [Option.isSome_map, List.find?_isSome, List.mem_map]
  constructor
  · rintro ⟨p, hp, h⟩
    exact ⟨p, hp, of_decide_eq_true h⟩
  · rintro ⟨p, hp, h⟩
    exact ⟨p, hp, decide_eq_true h⟩
theorem lookP_none {m : List (κ × β)} {k : κ} : lookP m k = none ↔ k ∉ m.map (·.1) := by
  rw [← lookP_isSome]
  cases lookP m k <;> simp
theorem lookP_of_mem {m : List (κ × β)} (hn : (m.map (·.1)).Nodup) {k : κ} {b : β} (h : (k, b) ∈ m) : lookP m k = some b := by
  induction m with
  | nil => cases h
  | cons p r ih =>
    rw [List.map_cons, List.nodup_cons] at hn
    rcases List.mem_cons.mp h with e | h
    · subst e
      unfold lookP
      rw [List.find?_cons_of_pos (by simp)]
      rfl
    · have ne : p.1 ≠ k := fun e => hn.1 (List.mem_map.mpr ⟨_, h, e.symm⟩)
      have := ih hn.2 h
      unfold lookP at this ⊢
      rw [List.find?_cons_of_neg (by simpa using ne)]
      exact this
theorem putP_new {m : List (κ × β)} {k : κ} (h : lookP m k = none) (b : β) : putP m k b = m ++ [(k, b)] := by
  unfold putP
  rw [h]
  rfl
end
theorem nodup_le {α : Type} [DecidableEq α] : ∀ {l m : List α}, l.Nodup → (∀ x ∈ l, x ∈ m) → l.length ≤ m.length
  | [], _, _, _ => Nat.zero_le _
  | a :: r, m, hn, hs => by
    obtain ⟨h1, h2⟩ := List.nodup_cons.mp hn
    have ha := hs a List.mem_cons_self
    have : r.length ≤ (m.erase a).length := nodup_le h2 fun x hx => (List.mem_erase_of_ne (fun e : x = a => h1 (by rw [← e]; exact hx))).mpr (hs x (List.mem_cons_of_mem _ hx))
    rw [List.length_erase_of_mem ha] at this
    have := List.length_pos_of_mem ha
    rw [List.length_cons]
    lia
section
variable {β : Type} (fl : Fl) (R : List Nat) (val : β → Nat → β) (dv : β)
noncomputable def add1 (s : Std) (z : List (Std × β) × List Std) (c : Nat) : List (Std × β) × List Std := match nx fl s c with
  | none => z
  | some t => if (lookP z.1 t).isSome = true then z else (z.1 ++ [(t, val ((lookP z.1 s).getD dv) c)], z.2 ++ [t])
noncomputable def addS (z : List (Std × β) × List Std) (s : Std) : List (Std × β) × List Std := R.foldl (add1 fl val dv s) z
noncomputable def ring (m : List (Std × β)) (e : List Std) : List (Std × β) × List Std := e.foldl (addS fl R val dv) (m, [])
noncomputable def cands (e : List Std) : List (Std × Nat) := e.flatMap fun s => R.map fun c => (s, c)
theorem ring_cands (e : List Std) : ∀ z : List (Std × β) × List Std, e.foldl (addS fl R val dv) z = (cands R e).foldl (fun z p => add1 fl val dv p.1 z p.2) z := by
  induction e with
  | nil => intro z; rfl
  | cons s r ih =>
    intro z
    show r.foldl _ (addS fl R val dv z s) = ((R.map fun c => (s, c)) ++ cands R r).foldl _ z
    rw [List.foldl_append, List.foldl_map, ih]
    rfl
/-- what the search has done behind the pairs P -/
structure Done (m0 : List (Std × β)) (P : List (Std × Nat)) (z : List (Std × β) × List Std) (new : List (Std × β)) : Prop where
  eq : z = (m0 ++ new, new.map (·.1))
  nd : (z.1.map (·.1)).Nodup
  all : ∀ s c t, (s, c) ∈ P → nx fl s c = some t → t ∈ z.1.map (·.1)
  one : ∀ t b, (t, b) ∈ new → t ∉ m0.map (·.1) ∧ ∃ pre s c post, P = pre ++ (s, c) :: post ∧ nx fl s c = some t ∧ b = val ((lookP m0 s).getD dv) c ∧ ∀ s' c', (s', c') ∈ pre → nx fl s' c' ≠ some t
  sub : (new.map (·.2)).Sublist (P.map fun p => val ((lookP m0 p.1).getD dv) p.2)
theorem done_nil {m0 : List (Std × β)} (h : (m0.map (·.1)).Nodup) : Done fl val dv m0 [] (m0, []) [] := ⟨by simp, h, fun s c t h => by (cases h), fun t b h => by (cases h), List.Sublist.refl _⟩
theorem done_snoc {m0 : List (Std × β)} {P : List (Std × Nat)} {z : List (Std × β) × List Std} {new : List (Std × β)} (D : Done fl val dv m0 P z new) {s : Std} (hs : s ∈ m0.map (·.1)) (c : Nat) : ∃ new', Done fl val dv m0 (P ++ [(s, c)]) (add1 fl val dv s z c) new' := by
  have keep : ∀ t b, (t, b) ∈ new → t ∉ m0.map (·.1) ∧ ∃ pre s1 c1 post, P ++ [(s, c)] = pre ++ (s1, c1) :: post ∧ nx fl s1 c1 = some t ∧ b = val ((lookP m0 s1).getD dv) c1 ∧ ∀ s' c', (s', c') ∈ pre → nx fl s' c' ≠ some t := fun t b h => by
    obtain ⟨h0, pre, s1, c1, post, h1, h2, h3, h4⟩ := D.one t b h
    exact ⟨h0, pre, s1, c1, post ++ [(s, c)], by rw [h1]; simp, h2, h3, h4⟩
  have sub0 : (new.map (·.2)).Sublist ((P ++ [(s, c)]).map fun p => val ((lookP m0 p.1).getD dv) p.2) := by
    rw [List.map_append]
    exact D.sub.trans (List.sublist_append_left _ _)
  unfold add1
  cases hx : nx fl s c with
  | none =>
    refine ⟨new, D.eq, D.nd, fun s1 c1 t hm ht => ?_, keep, sub0⟩
    rcases List.mem_append.mp hm with hm | hm
    · exact D.all s1 c1 t hm ht
    · cases List.mem_singleton.mp hm
      rw [hx] at ht
      cases ht
  | some t =>
    show ∃ new', Done fl val dv m0 (P ++ [(s, c)]) (if (lookP z.1 t).isSome = true then z else _) new'
    by_cases hl : (lookP z.1 t).isSome = true
    · rw [if_pos hl]
      refine ⟨new, D.eq, D.nd, fun s1 c1 t1 hm ht => ?_, keep, sub0⟩
      rcases List.mem_append.mp hm with hm | hm
      · exact D.all s1 c1 t1 hm ht
      · cases List.mem_singleton.mp hm
        rw [hx] at ht
        cases ht
        exact lookP_isSome.mp hl
    · rw [if_neg hl]
      have hz : z.1 = m0 ++ new := by rw [D.eq]
      have ht0 : t ∉ z.1.map (·.1) := fun h => hl (lookP_isSome.mpr h)
      have hv : (lookP z.1 s).getD dv = (lookP m0 s).getD dv := by
        rw [hz, lookP_app]
        have := lookP_isSome.mpr hs
        cases hq : lookP m0 s with
        | none => rw [hq] at this; cases this
        | some b => rfl
      refine ⟨new ++ [(t, val ((lookP m0 s).getD dv) c)], ?_, ?_, fun s1 c1 t1 hm ht => ?_, fun t1 b1 hm => ?_, ?_⟩
      · rw [hv, D.eq]
        simp
      · show ((z.1 ++ [(t, val ((lookP z.1 s).getD dv) c)]).map (·.1)).Nodup
        rw [List.map_append, List.nodup_append]
        refine ⟨D.nd, by simp, fun x hx' y hy e => ?_⟩
        have : y = t := by simpa using hy
        rw [e, this] at hx'
        exact ht0 hx'
      · show t1 ∈ (z.1 ++ [(t, val ((lookP z.1 s).getD dv) c)]).map (·.1)
        rw [List.map_append]
        rcases List.mem_append.mp hm with hm | hm
        · exact List.mem_append.mpr (.inl (D.all s1 c1 t1 hm ht))
        · cases List.mem_singleton.mp hm
          rw [hx] at ht
          cases ht
          exact List.mem_append.mpr (.inr (by simp))
      · rcases List.mem_append.mp hm with hm | hm
        · exact keep t1 b1 hm
        · cases List.mem_singleton.mp hm
          refine ⟨fun h => ht0 (by rw [hz, List.map_append]; exact List.mem_append.mpr (.inl h)), P, s, c, [], rfl, hx, rfl, fun s' c' hp he => ht0 (D.all s' c' t hp he)⟩
      · rw [List.map_append, List.map_append]
        exact D.sub.append (List.Sublist.refl _)
theorem done_all {m0 : List (Std × β)} (h : (m0.map (·.1)).Nodup) : ∀ P : List (Std × Nat), (∀ p ∈ P, p.1 ∈ m0.map (·.1)) → ∀ Q z new, Done fl val dv m0 Q z new → ∃ new', Done fl val dv m0 (Q ++ P) (P.foldl (fun z p => add1 fl val dv p.1 z p.2) z) new'
  | [], _, Q, z, new, D => ⟨new, by rw [List.append_nil]; exact D⟩
  | (s, c) :: r, hp, Q, z, new, D => by
    obtain ⟨n1, D1⟩ := done_snoc fl val dv D (hp (s, c) List.mem_cons_self) c
    obtain ⟨n2, D2⟩ := done_all h r (fun p hq => hp p (List.mem_cons_of_mem _ hq)) (Q ++ [(s, c)]) _ n1 D1
    exact ⟨n2, by rw [List.append_assoc] at D2; exact D2⟩
theorem ring_done {m : List (Std × β)} {e : List Std} (h : (m.map (·.1)).Nodup) (he : ∀ s ∈ e, s ∈ m.map (·.1)) : ∃ new, Done fl val dv m (cands R e) (ring fl R val dv m e) new := by
  have := done_all fl val dv h (cands R e) (fun p hp => by
    obtain ⟨s, hs, hm⟩ := List.mem_flatMap.mp hp
    obtain ⟨c, _, rfl⟩ := List.mem_map.mp hm
    exact he s hs) [] (m, []) [] (done_nil fl val dv h)
  unfold ring
  rw [ring_cands]
  exact this
end
theorem mem_cands {R : List Nat} {e : List Std} {s : Std} {c : Nat} : (s, c) ∈ cands R e ↔ s ∈ e ∧ c ∈ R := by
  unfold cands
  rw [List.mem_flatMap]
  constructor
  · rintro ⟨s', hs, hm⟩
    obtain ⟨c', hc, e⟩ := List.mem_map.mp hm
    cases e
    exact ⟨hs, hc⟩
  · rintro ⟨hs, hc⟩
    exact ⟨s, hs, List.mem_map.mpr ⟨c, hc, rfl⟩⟩
/-! ### distances -/
structure Dist (fl : Fl) (s0 t : Std) (k : Nat) : Prop where
  ex : ∃ l, l.length = k ∧ walk fl l s0 = some t
  le : ∀ l, walk fl l s0 = some t → k ≤ l.length
theorem Dist.uniq {fl : Fl} {s0 t : Std} {j k : Nat} (a : Dist fl s0 t j) (b : Dist fl s0 t k) : j = k := by
  obtain ⟨l, h1, h2⟩ := a.ex
  obtain ⟨l', h3, h4⟩ := b.ex
  have := a.le l' h4
  have := b.le l h2
  lia
theorem walk_last {fl : Fl} {s0 t : Std} {l : List Nat} {k : Nat} (hk : l.length = k + 1) (h : walk fl l s0 = some t) : ∃ l' c s, l = l' ++ [c] ∧ l'.length = k ∧ walk fl l' s0 = some s ∧ nx fl s c = some t := by
  have hne : l ≠ [] := fun e => by rw [e] at hk; cases hk
  obtain ⟨l', c, rfl⟩ : ∃ l' c, l = l' ++ [c] := ⟨l.dropLast, l.getLast hne, (List.dropLast_concat_getLast hne).symm⟩
  rw [walk_snoc] at h
  cases hw : walk fl l' s0 with
  | none => rw [hw] at h; cases h
  | some s =>
    rw [hw] at h
    exact ⟨l', c, s, rfl, by simpa using hk, hw, h⟩
theorem nx_roll {fl : Fl} {s t : Std} {c : Nat} (h : nx fl s c = some t) : isRoll c = true := by
  unfold nx at h
  split at h
  · rename_i hc; exact hc.1
  · cases h
end Die

set_option Elab.async false
set_option linter.all false
set_option maxRecDepth 100000
set_option maxHeartbeats 4000000
/-! the search finds the least of the shortest rows -/
namespace Die
open PySem L2
/-! ### the order of texts, of rows alike long -/
noncomputable def llt : List Nat → List Nat → Prop
  | a :: r, b :: s => a < b ∨ (a = b ∧ llt r s)
  | _, _ => False
noncomputable def lle (l m : List Nat) : Prop := l = m ∨ llt l m
theorem llt_snoc1 : ∀ {l m : List Nat} (a b : Nat), llt l m → llt (l ++ [a]) (m ++ [b])
  | [], _, _, _, h => by cases h
  | _ :: _, [], _, _, h => by cases h
  | x :: r, y :: s, a, b, h => by
    rcases h with h | ⟨h1, h2⟩
    · exact .inl h
    · exact .inr ⟨h1, llt_snoc1 a b h2⟩
theorem llt_snoc2 : ∀ (l : List Nat) {a b : Nat}, a < b → llt (l ++ [a]) (l ++ [b])
  | [], _, _, h => .inl h
  | _ :: r, _, _, h => .inr ⟨rfl, llt_snoc2 r h⟩
theorem llt_trans : ∀ {l m n : List Nat}, llt l m → llt m n → llt l n
  | [], _, _, h, _ => by cases h
  | _ :: _, [], _, h, _ => by cases h
  | _ :: _, _ :: _, [], _, h => by cases h
  | x :: r, y :: s, z :: u, h, h' => by
    rcases h with h | ⟨h1, h2⟩
    · rcases h' with h' | ⟨h3, h4⟩
      · exact .inl (Nat.lt_trans h h')
      · exact .inl (h3 ▸ h)
    · rcases h' with h' | ⟨h3, h4⟩
      · exact .inl (h1 ▸ h')
      · exact .inr ⟨h1.trans h3, llt_trans h2 h4⟩
theorem lle_trans {l m n : List Nat} (a : lle l m) (b : lle m n) : lle l n := by
  rcases a with rfl | a
  · exact b
  · rcases b with rfl | b
    · exact .inr a
    · exact .inr (llt_trans a b)
theorem lle_snoc {l m : List Nat} (c : Nat) (h : lle l m) : lle (l ++ [c]) (m ++ [c]) := by
  rcases h with rfl | h
  · exact .inl rfl
  · exact .inr (llt_snoc1 c c h)
/-! ### the rows of the search -/
noncomputable abbrev enswL : List Nat := [101, 110, 115, 119]
noncomputable abbrev vRow (b : List Nat) (c : Nat) : List Nat := b ++ [c]
theorem enswL_up : enswL.Pairwise (· < ·) := by decide
theorem ensw_mem {c : Nat} (h : isRoll c = true) : c ∈ enswL := of_decide_eq_true (roll_in.trans h)
/-- a row is the least of the shortest ones -/
structure Best (fl : Fl) (s0 t : Std) (b : List Nat) : Prop where
  w : walk fl b s0 = some t
  short : ∀ l, walk fl l s0 = some t → b.length ≤ l.length
  least : ∀ l, l.length = b.length → walk fl l s0 = some t → lle b l
theorem Best.dist {fl : Fl} {s0 t : Std} {b : List Nat} (h : Best fl s0 t b) : Dist fl s0 t b.length := ⟨⟨b, rfl, h.w⟩, h.short⟩
structure Lvl (fl : Fl) (s0 : Std) (k : Nat) (m : List (Std × List Nat)) (e : List Std) : Prop where
  nd : (m.map (·.1)).Nodup
  come : ∀ l t, l.length ≤ k → walk fl l s0 = some t → t ∈ m.map (·.1)
  best : ∀ t b, (t, b) ∈ m → b.length ≤ k ∧ Best fl s0 t b
  edge : ∀ t, t ∈ e ↔ Dist fl s0 t k
  ord : (e.map fun t => (lookP m t).getD []).Pairwise llt
theorem lvl_zero (fl : Fl) (s0 : Std) : Lvl fl s0 0 [(s0, [])] [s0] where
  nd := by simp
  come := fun l t hl hw => by
    cases l with
    | nil => cases hw; simp
    | cons a r => simp at hl
  best := fun t b h => by
    cases List.mem_singleton.mp h
    exact ⟨Nat.le_refl _, rfl, fun l _ => Nat.zero_le _, fun l hl _ => .inl (List.length_eq_zero_iff.mp hl).symm⟩
  edge := fun t => by
    rw [List.mem_singleton]
    constructor
    · rintro rfl
      exact ⟨⟨[], rfl, rfl⟩, fun l _ => Nat.zero_le _⟩
    · intro h
      obtain ⟨l, hl, hw⟩ := h.ex
      rw [List.length_eq_zero_iff.mp hl] at hw
      cases hw
      rfl
  ord := by simp
theorem Lvl.mem {fl : Fl} {s0 : Std} {k : Nat} {m : List (Std × List Nat)} {e : List Std} (L : Lvl fl s0 k m e) {t : Std} (h : t ∈ e) : ∃ b, (t, b) ∈ m ∧ lookP m t = some b ∧ b.length = k ∧ Best fl s0 t b := by
  have hd := (L.edge t).mp h
  obtain ⟨l, hl, hw⟩ := hd.ex
  obtain ⟨p, hp, e1⟩ := List.mem_map.mp (L.come l t (by lia) hw)
  obtain ⟨t', b⟩ := p
  cases e1
  obtain ⟨_, hb⟩ := L.best _ _ hp
  exact ⟨b, hp, lookP_of_mem L.nd hp, hb.dist.uniq hd, hb⟩
theorem cands_pair {m : List (Std × List Nat)} : ∀ {e : List Std}, (e.map fun t => (lookP m t).getD []).Pairwise llt → ((cands enswL e).map fun p => vRow ((lookP m p.1).getD []) p.2).Pairwise llt
  | [], _ => List.Pairwise.nil
  | s :: r, h => by
    rw [List.map_cons, List.pairwise_cons] at h
    show (((enswL.map fun c => (s, c)) ++ cands enswL r).map fun p => vRow ((lookP m p.1).getD []) p.2).Pairwise llt
    rw [List.map_append, List.pairwise_append]
    refine ⟨?_, cands_pair h.2, fun x hx y hy => ?_⟩
    · rw [List.map_map, List.pairwise_map]
      exact enswL_up.imp fun hab => llt_snoc2 _ hab
    · rw [List.map_map] at hx
      obtain ⟨c, _, rfl⟩ := List.mem_map.mp hx
      obtain ⟨⟨s', c'⟩, hp, rfl⟩ := List.mem_map.mp hy
      have hs := (mem_cands.mp hp).1
      exact llt_snoc1 _ _ (h.1 _ (List.mem_map.mpr ⟨s', hs, rfl⟩))
theorem Dist.back {fl : Fl} {s0 s t : Std} {l' : List Nat} {c k : Nat} (h : Dist fl s0 t (k + 1)) (hl : l'.length = k) (hw : walk fl l' s0 = some s) (hn : nx fl s c = some t) : Dist fl s0 s k :=
  ⟨⟨l', hl, hw⟩, fun l hl2 => by
    have := h.le (l ++ [c]) (by rw [walk_snoc, hl2]; exact hn)
    rw [List.length_append, List.length_singleton] at this
    lia⟩
theorem lvl_succ {fl : Fl} {s0 : Std} {k : Nat} {m : List (Std × List Nat)} {e : List Std} (L : Lvl fl s0 k m e) : Lvl fl s0 (k + 1) (ring fl enswL vRow [] m e).1 (ring fl enswL vRow [] m e).2 := by
  obtain ⟨new, D⟩ := ring_done fl enswL vRow [] (m := m) (e := e) L.nd fun s hs => by
    obtain ⟨b, hb, _⟩ := L.mem hs
    exact List.mem_map.mpr ⟨_, hb, rfl⟩
  have hm1 : (ring fl enswL vRow [] m e).1 = m ++ new := by rw [D.eq]
  have he1 : (ring fl enswL vRow [] m e).2 = new.map (·.1) := by rw [D.eq]
  have nd := D.nd
  have all := D.all
  rw [hm1] at nd all
  rw [hm1, he1]
  have far : ∀ t, t ∉ m.map (·.1) → ∀ l, walk fl l s0 = some t → k + 1 ≤ l.length := fun t ht l hw => by
    rcases Nat.lt_or_ge k l.length with h | h
    · exact h
    · exact absurd (L.come l t h hw) ht
  have edge : ∀ t, t ∈ new.map (·.1) ↔ Dist fl s0 t (k + 1) := fun t => by
    constructor
    · intro h
      obtain ⟨⟨t', b⟩, hb, rfl⟩ := List.mem_map.mp h
      obtain ⟨hn, pre, s, c, post, h1, h2, h3, h4⟩ := D.one t' b hb
      have hs : s ∈ e := (mem_cands.mp (by rw [h1]; simp : (s, c) ∈ cands enswL e)).1
      obtain ⟨bs, _, _, hl, B⟩ := L.mem hs
      exact ⟨⟨bs ++ [c], by rw [List.length_append, hl]; rfl, by rw [walk_snoc, B.w]; exact h2⟩, far t' hn⟩
    · intro h
      obtain ⟨l, hl, hw⟩ := h.ex
      obtain ⟨l', c, s, rfl, hl', hw', hn⟩ := walk_last hl hw
      have hs := (L.edge s).mpr (h.back hl' hw' hn)
      have := all s c t (mem_cands.mpr ⟨hs, ensw_mem (nx_roll hn)⟩) hn
      rw [List.map_append] at this
      rcases List.mem_append.mp this with h' | h'
      · obtain ⟨⟨t', b⟩, hb, rfl⟩ := List.mem_map.mp h'
        obtain ⟨h1, B⟩ := L.best _ _ hb
        have := B.dist.uniq h
        lia
      · exact h'
  have pw := cands_pair L.ord
  refine ⟨nd, fun l t hl hw => ?_, fun t b hb => ?_, edge, ?_⟩
  · rw [List.map_append]
    by_cases h0 : t ∈ m.map (·.1)
    · exact List.mem_append.mpr (.inl h0)
    · refine List.mem_append.mpr (.inr ((edge t).mpr ⟨⟨l, ?_, hw⟩, far t h0⟩))
      have := far t h0 l hw
      lia
  · rcases List.mem_append.mp hb with hb | hb
    · obtain ⟨h1, h2⟩ := L.best t b hb
      exact ⟨by lia, h2⟩
    · obtain ⟨hn, pre, s, c, post, h1, h2, h3, h4⟩ := D.one t b hb
      have hs : s ∈ e := (mem_cands.mp (by rw [h1]; simp : (s, c) ∈ cands enswL e)).1
      obtain ⟨bs, _, hlk, hl, B⟩ := L.mem hs
      rw [hlk] at h3
      have h3 : b = bs ++ [c] := h3
      have hbl : b.length = k + 1 := by rw [h3, List.length_append, hl]; rfl
      have hd := (edge t).mp (List.mem_map.mpr ⟨_, hb, rfl⟩)
      refine ⟨by lia, by rw [h3, walk_snoc, B.w]; exact h2, by rw [hbl]; exact far t hn, fun l hl2 hw => ?_⟩
      rw [hbl] at hl2
      obtain ⟨l', c', s', rfl, hl', hw', hn'⟩ := walk_last hl2 hw
      have hs' := (L.edge s').mpr (hd.back hl' hw' hn')
      obtain ⟨bs', _, hlk', hbl', B'⟩ := L.mem hs'
      have hmem : (s', c') ∈ cands enswL e := mem_cands.mpr ⟨hs', ensw_mem (nx_roll hn')⟩
      have le2 : lle (bs' ++ [c']) (l' ++ [c']) := lle_snoc c' (B'.least l' (by lia) hw')
      rw [h1] at hmem
      rcases List.mem_append.mp hmem with hp | hp
      · exact absurd hn' (h4 s' c' hp)
      · rcases List.mem_cons.mp hp with hp | hp
        · cases hp
          rw [hlk] at hlk'
          cases hlk'
          rw [h3]
          exact le2
        · rw [h1, List.map_append, List.pairwise_append, List.map_cons, List.pairwise_cons] at pw
          have := pw.2.1.1 _ (List.mem_map.mpr ⟨_, hp, rfl⟩)
          have : llt (vRow ((lookP m s).getD []) c) (vRow ((lookP m s').getD []) c') := this
          rw [hlk, hlk'] at this
          rw [h3]
          exact lle_trans (.inr this) le2
  · have e3 : ((new.map (·.1)).map fun t => (lookP (m ++ new) t).getD []) = new.map (·.2) := by
      rw [List.map_map]
      apply List.map_congr_left
      intro p hp
      show (lookP (m ++ new) p.1).getD [] = p.2
      rw [lookP_of_mem nd (b := p.2) (List.mem_append.mpr (.inr hp))]
      rfl
    rw [e3]
    exact pw.sublist D.sub
/-! ### the rings one behind the other -/
noncomputable def itR (fl : Fl) (s0 : Std) : Nat → List (Std × List Nat) × List Std
  | 0 => ([(s0, [])], [s0])
  | k + 1 => ring fl enswL vRow [] (itR fl s0 k).1 (itR fl s0 k).2
theorem itR_lvl (fl : Fl) (s0 : Std) : ∀ k, Lvl fl s0 k (itR fl s0 k).1 (itR fl s0 k).2
  | 0 => lvl_zero fl s0
  | k + 1 => lvl_succ (itR_lvl fl s0 k)
theorem itR_stop {fl : Fl} {s0 : Std} {k : Nat} (h : (itR fl s0 k).2 = []) : ∀ n, itR fl s0 (k + n) = itR fl s0 k
  | 0 => rfl
  | n + 1 => by
    show ring fl enswL vRow [] (itR fl s0 (k + n)).1 (itR fl s0 (k + n)).2 = _
    rw [itR_stop h n, h]
    show ((itR fl s0 k).1, []) = _
    rw [← h]
@[irreducible] noncomputable def rowsOf (fl : Fl) (s0 : Std) : List (Std × List Nat) := (itR fl s0 2000).1
/-- the stands of a floor -/
noncomputable def allSt : List Std := (List.range 8).flatMap fun i : Nat => (List.range 8).flatMap fun j : Nat => lies.map fun t => (((i : Int), (j : Int)), t)
theorem allSt_len : allSt.length = 1536 := by decide +kernel
theorem floor_row {fl : Fl} (hf : isFloor fl = true) : fl.length ≤ 8 ∧ ∀ r ∈ fl, r.length ≤ 8 := by
  unfold isFloor at hf
  simp only [Bool.and_eq_true] at hf
  obtain ⟨⟨h1, h2⟩, ⟨h3, h4⟩, h5⟩ := hf
  refine ⟨of_decide_eq_true h2, fun r hr => ?_⟩
  have := List.all_eq_true.mp h5 r hr
  unfold isRow at this
  rw [Bool.and_eq_true] at this
  rw [of_decide_eq_true this.1]
  exact of_decide_eq_true h4
theorem floor_cell {fl : Fl} (hf : isFloor fl = true) {p : Pl} (h : isCell fl p.1 p.2 = true) : 0 ≤ p.1 ∧ p.1 < 8 ∧ 0 ≤ p.2 ∧ p.2 < 8 := by
  obtain ⟨h1, h2⟩ := floor_row hf
  unfold isCell at h
  split at h
  · rename_i hr
    split at h
    · rename_i hc
      have hm : fl.getD p.1.toNat default ∈ fl := by
        rw [List.getD_eq_getElem?_getD, List.getElem?_eq_getElem (by lia)]
        exact List.getElem_mem _
      have := h2 _ hm
      lia
    · cases h
  · cases h
theorem On.all {fl : Fl} (hf : isFloor fl = true) {s : Std} (h : On fl s) : s ∈ allSt := by
  obtain ⟨⟨r, c⟩, t⟩ := s
  obtain ⟨h1, h2, h3, h4⟩ := floor_cell hf h.cell
  unfold allSt
  refine List.mem_flatMap.mpr ⟨r.toNat, List.mem_range.mpr (by simp only at h1 h2; lia), List.mem_flatMap.mpr ⟨c.toNat, List.mem_range.mpr (by simp only at h3 h4; lia), List.mem_map.mpr ⟨t, mem_lies h.len h.lie, ?_⟩⟩⟩
  have e1 : ((r.toNat : Nat) : Int) = r := by simp only at h1; lia
  have e2 : ((c.toNat : Nat) : Int) = c := by simp only at h3; lia
  rw [e1, e2]
theorem few {β : Type} {fl : Fl} (hf : isFloor fl = true) {m : List (Std × β)} (hn : (m.map (·.1)).Nodup) (ho : ∀ t ∈ m.map (·.1), On fl t) : m.length ≤ 1536 := by
  have := nodup_le hn fun x hx => (ho x hx).all hf
  rw [List.length_map, allSt_len] at this
  exact this
theorem Done.on {β : Type} {fl : Fl} {val : β → Nat → β} {dv : β} {m0 : List (Std × β)} {P : List (Std × Nat)} {z : List (Std × β) × List Std} {new : List (Std × β)} (D : Done fl val dv m0 P z new) (ho : ∀ t ∈ m0.map (·.1), On fl t) (hP : ∀ p ∈ P, p.1 ∈ m0.map (·.1)) : ∀ t ∈ z.1.map (·.1), On fl t := by
  intro t ht
  rw [D.eq] at ht
  have ht : t ∈ (m0 ++ new).map (·.1) := ht
  rw [List.map_append] at ht
  rcases List.mem_append.mp ht with ht | ht
  · exact ho t ht
  · obtain ⟨⟨t', b⟩, hb, rfl⟩ := List.mem_map.mp ht
    obtain ⟨_, pre, s, c, post, h1, h2, _, _⟩ := D.one t' b hb
    exact (ho s (hP (s, c) (by rw [h1]; simp))).nx h2
/-- amid a ring -/
theorem part_done {β : Type} {fl : Fl} {R : List Nat} {val : β → Nat → β} {dv : β} {m : List (Std × β)} {e : List Std} (h : (m.map (·.1)).Nodup) (he : ∀ s ∈ e, s ∈ m.map (·.1)) (j : Nat) {s : Std} (hs : e[j]? = some s) (i : Nat) :
    ∃ new, Done fl val dv m (cands R (e.take j) ++ (R.take i).map fun c => (s, c)) ((R.take i).foldl (add1 fl val dv s) ((e.take j).foldl (addS fl R val dv) (m, []))) new := by
  have := done_all fl val dv h (cands R (e.take j) ++ (R.take i).map fun c => (s, c)) (fun p hp => by
    rcases List.mem_append.mp hp with hp | hp
    · exact he _ (List.mem_of_mem_take (mem_cands (s := p.1) (c := p.2).mp hp).1)
    · obtain ⟨c, _, rfl⟩ := List.mem_map.mp hp
      exact he s (List.mem_of_getElem? hs)) [] (m, []) [] (done_nil fl val dv h)
  rw [List.foldl_append, List.foldl_map, ← ring_cands] at this
  exact this
theorem walk_on {fl : Fl} : ∀ {l : List Nat} {s t : Std}, On fl s → walk fl l s = some t → On fl t
  | [], s, t, h, e => by cases e; exact h
  | c :: r, s, t, h, e => by
    have e : (nx fl s c).bind (walk fl r) = some t := e
    cases hx : nx fl s c with
    | none => rw [hx] at e; cases e
    | some u => rw [hx] at e; exact walk_on (h.nx hx) e
theorem Lvl.on {fl : Fl} {s0 : Std} {k : Nat} {m : List (Std × List Nat)} {e : List Std} (L : Lvl fl s0 k m e) (h : On fl s0) : ∀ t ∈ m.map (·.1), On fl t := fun t ht => by
  obtain ⟨⟨t', b⟩, hb, rfl⟩ := List.mem_map.mp ht
  exact walk_on h (L.best _ _ hb).2.w
theorem Lvl.sub {fl : Fl} {s0 : Std} {k : Nat} {m : List (Std × List Nat)} {e : List Std} (L : Lvl fl s0 k m e) : ∀ t ∈ e, t ∈ m.map (·.1) := fun t ht => by
  obtain ⟨b, hb, _⟩ := L.mem ht
  exact List.mem_map.mpr ⟨_, hb, rfl⟩
/-! ### what the search gives -/
theorem rows_lvl {fl : Fl} {s0 : Std} {k : Nat} (h : (itR fl s0 k).2 = []) (hk : k ≤ 2000) : rowsOf fl s0 = (itR fl s0 k).1 := by
  unfold rowsOf
  have := itR_stop h (2000 - k)
  rw [show k + (2000 - k) = 2000 by lia] at this
  rw [this]
theorem ring_len {β : Type} (fl : Fl) (R : List Nat) (val : β → Nat → β) (dv : β) {m : List (Std × β)} {e : List Std} (h : (m.map (·.1)).Nodup) (he : ∀ s ∈ e, s ∈ m.map (·.1)) : (ring fl R val dv m e).1.length = m.length + (ring fl R val dv m e).2.length := by
  obtain ⟨new, D⟩ := ring_done fl R val dv h he
  rw [D.eq]
  simp
end Die

set_option Elab.async false
set_option linter.all false
set_option maxRecDepth 100000
set_option maxHeartbeats 4000000
/-! stands as keys -/
namespace Die
open PySem L2
theorem ints_inj : ∀ {l m : List Int}, l.map PyData.int = m.map PyData.int → l = m
  | [], [], _ => rfl
  | [], _ :: _, h => by cases h
  | _ :: _, [], h => by cases h
  | a :: r, b :: s, h => by
    rw [List.map_cons, List.map_cons] at h
    injection h with h1 h2
    injection h1 with h1
    rw [h1, ints_inj h2]
theorem stD_inj (a b : Std) (h : stD a = stD b) : a = b := by
  obtain ⟨⟨r, c⟩, t⟩ := a
  obtain ⟨⟨r', c'⟩, t'⟩ := b
  injection h with h
  injection h with h1 h2
  injection h1 with h1
  injection h1 with h3 h4
  injection h3 with h3
  injection h4 with h4
  injection h4 with h4
  injection h2 with h2
  injection h2 with h2
  have h3 : r = r' := h3
  have h4 : c = c' := h4
  have h2 : t = t' := ints_inj h2
  rw [h3, h4, h2]
theorem plD_inj (a b : Pl) (h : plD a = plD b) : a = b := by
  obtain ⟨r, c⟩ := a
  obtain ⟨r', c'⟩ := b
  injection h with h1
  injection h1 with h3 h4
  injection h3 with h3
  injection h4 with h4
  injection h4 with h4
  have h3 : r = r' := h3
  have h4 : c = c' := h4
  rw [h3, h4]
noncomputable abbrev encR (m : List (Std × List Nat)) : List (PyData × PyData) := m.map fun p => (stD p.1, txD p.2)
noncomputable abbrev encF (m : List (Std × Int)) : List (PyData × PyData) := m.map fun p => (stD p.1, PyData.int p.2)
theorem encR_at (m : List (Std × List Nat)) (t : Std) : dAt (encR m) (stD t) = (lookP m t).map txD := dAt_map stD_inj t m
theorem encF_at (m : List (Std × Int)) (t : Std) : dAt (encF m) (stD t) = (lookP m t).map PyData.int := dAt_map stD_inj t m
theorem encR_put {m : List (Std × List Nat)} {t : Std} (h : lookP m t = none) (b : List Nat) : dPut (encR m) (stD t) (txD b) = encR (m ++ [(t, b)]) := by
  have := dPut_map (f := stD) (g := txD) stD_inj t b m
  rw [putP_new h] at this
  exact this
theorem encF_put {m : List (Std × Int)} {t : Std} (h : lookP m t = none) (b : Int) : dPut (encF m) (stD t) (.int b) = encF (m ++ [(t, b)]) := by
  have := dPut_map (f := stD) (g := PyData.int) stD_inj t b m
  rw [putP_new h] at this
  exact this
noncomputable instance immSt (s : Std) : Imm (stD s) := inferInstance
noncomputable instance cmpNotInO (o : Option Std) (kvs : List (PyData × PyData)) : CmpD .NotIn (nxD o) (.dict kvs) (!(dAt kvs (nxD o)).isSome) (o.isSome = true) := ⟨fun h {X} hu => by
  cases o with
  | none => cases h
  | some t => exact (cmpNotInD (stD t) kvs).ok trivial hu⟩
theorem some_nx {o : Option Std} (h : (!isNoneD (nxD o)) = true) : o.isSome = true := by cases o <;> first | rfl | cases h
end Die
namespace L2
open PySem
/-- what a name holds is forgotten -/
theorem Sta.forget {K : PySem.W.Frag} {H0 H : Hp} {σ : St} {env : Nv} {own : Own} (Z : Sta K H0 H σ env own) (j : Nat) : Sta K H0 H σ (env.set j none) own := by
  refine ⟨by rw [List.length_set]; exact Z.len, Z.same, fun n s h => ?_, Z.ow, Z.nd⟩
  by_cases hn : j = n
  · subst hn
    by_cases hl : j < env.length
    · rw [List.getElem?_set_self hl] at h; cases h
    · rw [List.getElem?_eq_none (by rw [List.length_set]; lia)] at h; cases h
  · rw [List.getElem?_set_ne hn] at h
    exact Z.sl n s h
end L2
namespace Die
open PySem L2
theorem nxD_some (t : Std) : nxD (some t) = stD t := rfl
end Die
namespace Die
open PySem L2
/-! ### the end of the search -/
theorem it_long {fl : Fl} {s0 : Std} : ∀ n, (∀ j < n, (itR fl s0 j).2 ≠ []) → n + (if (itR fl s0 n).2.isEmpty then 0 else 1) ≤ (itR fl s0 n).1.length
  | 0, _ => Nat.le_refl _
  | n + 1, h => by
    have ih := it_long n fun j hj => h j (by lia)
    have hn := h n (by lia)
    have L := itR_lvl fl s0 n
    have rl := ring_len fl enswL vRow [] L.nd L.sub
    have e1 : (itR fl s0 n).2.isEmpty = false := by cases q : (itR fl s0 n).2 with | nil => exact absurd q hn | cons _ _ => rfl
    rw [e1] at ih
    show n + 1 + (if (ring fl enswL vRow [] (itR fl s0 n).1 (itR fl s0 n).2).2.isEmpty then 0 else 1) ≤ (ring fl enswL vRow [] (itR fl s0 n).1 (itR fl s0 n).2).1.length
    rw [rl]
    cases q : (ring fl enswL vRow [] (itR fl s0 n).1 (itR fl s0 n).2).2 with
    | nil => simp at ih ⊢; lia
    | cons _ _ => simp at ih ⊢; lia
theorem it_ends {fl : Fl} {s0 : Std} (hf : isFloor fl = true) (on : On fl s0) : ∃ k, k ≤ 2000 ∧ (itR fl s0 k).2 = [] := by
  apply Classical.byContradiction
  intro h
  have h' : ∀ j < 1600, (itR fl s0 j).2 ≠ [] := fun j hj e => h ⟨j, by lia, e⟩
  have h1 := it_long 1600 h'
  have L := itR_lvl fl s0 1600
  have h2 := few hf L.nd (L.on on)
  lia
structure Found (fl : Fl) (s0 : Std) (m : List (Std × List Nat)) : Prop where
  nd : (m.map (·.1)).Nodup
  best : ∀ t b, (t, b) ∈ m → Best fl s0 t b
  come : ∀ l t, walk fl l s0 = some t → t ∈ m.map (·.1)
  on : ∀ t ∈ m.map (·.1), On fl t
  len : m.length ≤ 1536
theorem rows_found {fl : Fl} {s0 : Std} (hf : isFloor fl = true) (on : On fl s0) : Found fl s0 (rowsOf fl s0) := by
  obtain ⟨k, hk, he⟩ := it_ends hf on
  have e := rows_lvl he hk
  have L := itR_lvl fl s0 k
  rw [e]
  refine ⟨L.nd, fun t b h => (L.best t b h).2, fun l t hw => ?_, L.on on, few hf L.nd (L.on on)⟩
  have L2 := itR_lvl fl s0 (k + l.length)
  rw [itR_stop he] at L2
  exact L2.come l t (by lia) hw
/-! ### the lies at a place -/
noncomputable def endsU (fl : Fl) (s0 : Std) (p : Pl) : List (List Int) := ((rowsOf fl s0).filter fun z => PyData.eqv (plD z.1.1) (plD p)).map fun z => z.1.2
noncomputable def endsOf (fl : Fl) (s0 : Std) (p : Pl) : List (List Int) := sortB intItem (endsU fl s0 p)
theorem mem_endsU {fl : Fl} {s0 : Std} (hf : isFloor fl = true) (on : On fl s0) {p : Pl} {t : List Int} : t ∈ endsU fl s0 p ↔ ∃ l, walk fl l s0 = some (p, t) := by
  have F := rows_found hf on
  unfold endsU
  rw [List.mem_map]
  constructor
  · rintro ⟨⟨⟨q, u⟩, b⟩, hm, rfl⟩
    obtain ⟨h1, h2⟩ := List.mem_filter.mp hm
    rw [eqv_pl] at h2
    have : q = p := of_decide_eq_true h2
    subst this
    exact ⟨b, (F.best _ _ h1).w⟩
  · rintro ⟨l, hw⟩
    obtain ⟨⟨t', b⟩, hb, e⟩ := List.mem_map.mp (F.come l _ hw)
    cases e
    exact ⟨_, List.mem_filter.mpr ⟨hb, by rw [eqv_pl]; simp⟩, rfl⟩
theorem endsU_nodup {fl : Fl} {s0 : Std} (hf : isFloor fl = true) (on : On fl s0) (p : Pl) : (endsU fl s0 p).Nodup := by
  have F := rows_found hf on
  unfold endsU
  have nd := F.nd
  rw [List.Nodup, List.pairwise_map] at nd ⊢
  have nd2 := nd.filter fun z => PyData.eqv (plD z.1.1) (plD p)
  refine List.Pairwise.imp_of_mem (fun {x y} hx hy h e => ?_) nd2
  have hx := (List.mem_filter.mp hx).2
  have hy := (List.mem_filter.mp hy).2
  rw [eqv_pl] at hx hy
  exact h (Prod.ext ((of_decide_eq_true hx).trans (of_decide_eq_true hy).symm) e)
theorem endsU_lie {fl : Fl} {s0 : Std} (hf : isFloor fl = true) (on : On fl s0) (p : Pl) : ∀ t ∈ endsU fl s0 p, t.length = 3 ∧ isLie t = true := fun t ht => by
  obtain ⟨l, hw⟩ := (mem_endsU hf on).mp ht
  have := walk_on on hw
  exact ⟨this.len, this.lie⟩
theorem endsU_len {fl : Fl} {s0 : Std} (hf : isFloor fl = true) (on : On fl s0) (p : Pl) : (endsU fl s0 p).length ≤ 24 := by
  have := nodup_le (endsU_nodup hf on p) (m := lies) fun t ht => by
    obtain ⟨h3, hl⟩ := endsU_lie hf on p t ht
    exact mem_lies h3 hl
  rwa [lies_len] at this
end Die

set_option Elab.async false
set_option linter.all false
set_option maxRecDepth 100000
set_option maxHeartbeats 4000000
/-! a law's own search -/
namespace Die
open PySem L2
theorem eqv_st (a b : Std) : PyData.eqv (stD a) (stD b) = decide (a = b) := by
  have h : PyData.eqv (stD a) (stD b) = (PyData.eqv (plD a.1) (plD b.1) && (PyData.eqv (lieD a.2) (lieD b.2) && true)) := rfl
  rw [h, eqv_pl, Bool.and_true, show PyData.eqv (lieD a.2) (lieD b.2) = decide (a.2 = b.2) from eqv_ints a.2 b.2]
  obtain ⟨p, t⟩ := a
  obtain ⟨q, u⟩ := b
  by_cases h1 : p = q
  · by_cases h2 : t = u
    · simp [h1, h2]
    · simp [h1, h2]
  · simp [h1]
noncomputable abbrev wsneL : List Nat := [119, 115, 110, 101]
theorem wsne_mem {c : Nat} (h : isRoll c = true) : c ∈ wsneL := by
  have := ensw_mem h
  simp at this ⊢
  lia
noncomputable abbrev vFar (k : Nat) (_ : Int) (_ : Nat) : Int := ((k + 1 : Nat) : Int)
structure LvlF (fl : Fl) (s0 : Std) (k : Nat) (m : List (Std × Int)) (e : List Std) : Prop where
  nd : (m.map (·.1)).Nodup
  come : ∀ l t, l.length ≤ k → walk fl l s0 = some t → t ∈ m.map (·.1)
  far : ∀ t b, (t, b) ∈ m → ∃ j : Nat, j ≤ k ∧ b = (j : Int) ∧ Dist fl s0 t j
  edge : ∀ t, t ∈ e ↔ Dist fl s0 t k
theorem lvlF_zero (fl : Fl) (s0 : Std) : LvlF fl s0 0 [(s0, 0)] [s0] where
  nd := by simp
  come := fun l t hl hw => by
    cases l with
    | nil => cases hw; simp
    | cons a r => simp at hl
  far := fun t b h => by
    cases List.mem_singleton.mp h
    exact ⟨0, Nat.le_refl _, rfl, ⟨[], rfl, rfl⟩, fun l _ => Nat.zero_le _⟩
  edge := (lvl_zero fl s0).edge
theorem LvlF.sub {fl : Fl} {s0 : Std} {k : Nat} {m : List (Std × Int)} {e : List Std} (L : LvlF fl s0 k m e) : ∀ t ∈ e, t ∈ m.map (·.1) := fun t ht => by
  obtain ⟨l, hl, hw⟩ := ((L.edge t).mp ht).ex
  exact L.come l t (by lia) hw
theorem LvlF.on {fl : Fl} {s0 : Std} {k : Nat} {m : List (Std × Int)} {e : List Std} (L : LvlF fl s0 k m e) (h : On fl s0) : ∀ t ∈ m.map (·.1), On fl t := fun t ht => by
  obtain ⟨⟨t', b⟩, hb, rfl⟩ := List.mem_map.mp ht
  obtain ⟨j, _, _, D⟩ := L.far _ _ hb
  obtain ⟨l, _, hw⟩ := D.ex
  exact walk_on h hw
theorem lvlF_succ {fl : Fl} {s0 : Std} {k : Nat} {m : List (Std × Int)} {e : List Std} (L : LvlF fl s0 k m e) : LvlF fl s0 (k + 1) (ring fl wsneL (vFar k) 0 m e).1 (ring fl wsneL (vFar k) 0 m e).2 := by
  obtain ⟨new, D⟩ := ring_done fl wsneL (vFar k) 0 (m := m) (e := e) L.nd L.sub
  have hm1 : (ring fl wsneL (vFar k) 0 m e).1 = m ++ new := by rw [D.eq]
  have he1 : (ring fl wsneL (vFar k) 0 m e).2 = new.map (·.1) := by rw [D.eq]
  have nd := D.nd
  have all := D.all
  rw [hm1] at nd all
  rw [hm1, he1]
  have far : ∀ t, t ∉ m.map (·.1) → ∀ l, walk fl l s0 = some t → k + 1 ≤ l.length := fun t ht l hw => by
    rcases Nat.lt_or_ge k l.length with h | h
    · exact h
    · exact absurd (L.come l t h hw) ht
  have edge : ∀ t, t ∈ new.map (·.1) ↔ Dist fl s0 t (k + 1) := fun t => by
    constructor
    · intro h
      obtain ⟨⟨t', b⟩, hb, rfl⟩ := List.mem_map.mp h
      obtain ⟨hn, pre, s, c, post, h1, h2, h3, h4⟩ := D.one t' b hb
      have hs : s ∈ e := (mem_cands.mp (by rw [h1]; simp : (s, c) ∈ cands wsneL e)).1
      obtain ⟨ls, hl, hw⟩ := ((L.edge s).mp hs).ex
      exact ⟨⟨ls ++ [c], by rw [List.length_append, hl]; rfl, by rw [walk_snoc, hw]; exact h2⟩, far t' hn⟩
    · intro h
      obtain ⟨l, hl, hw⟩ := h.ex
      obtain ⟨l', c, s, rfl, hl', hw', hn⟩ := walk_last hl hw
      have hs := (L.edge s).mpr (h.back hl' hw' hn)
      have := all s c t (mem_cands.mpr ⟨hs, wsne_mem (nx_roll hn)⟩) hn
      rw [List.map_append] at this
      rcases List.mem_append.mp this with h' | h'
      · obtain ⟨⟨t', b⟩, hb, rfl⟩ := List.mem_map.mp h'
        obtain ⟨j, h1, h2, B⟩ := L.far _ _ hb
        have := B.uniq h
        lia
      · exact h'
  refine ⟨nd, fun l t hl hw => ?_, fun t b hb => ?_, edge⟩
  · rw [List.map_append]
    by_cases h0 : t ∈ m.map (·.1)
    · exact List.mem_append.mpr (.inl h0)
    · refine List.mem_append.mpr (.inr ((edge t).mpr ⟨⟨l, ?_, hw⟩, far t h0⟩))
      have := far t h0 l hw
      lia
  · rcases List.mem_append.mp hb with hb | hb
    · obtain ⟨j, h1, h2, h3⟩ := L.far t b hb
      exact ⟨j, by lia, h2, h3⟩
    · obtain ⟨hn, pre, s, c, post, h1, h2, h3, h4⟩ := D.one t b hb
      exact ⟨k + 1, Nat.le_refl _, h3, (edge t).mp (List.mem_map.mpr ⟨_, hb, rfl⟩)⟩
noncomputable def itF (fl : Fl) (s0 : Std) : Nat → List (Std × Int) × List Std
  | 0 => ([(s0, 0)], [s0])
  | k + 1 => ring fl wsneL (vFar k) 0 (itF fl s0 k).1 (itF fl s0 k).2
theorem itF_lvl (fl : Fl) (s0 : Std) : ∀ k, LvlF fl s0 k (itF fl s0 k).1 (itF fl s0 k).2
  | 0 => lvlF_zero fl s0
  | k + 1 => lvlF_succ (itF_lvl fl s0 k)
theorem itF_stop {fl : Fl} {s0 : Std} {k : Nat} (h : (itF fl s0 k).2 = []) : ∀ n, itF fl s0 (k + n) = itF fl s0 k
  | 0 => rfl
  | n + 1 => by
    show ring fl wsneL (vFar (k + n)) 0 (itF fl s0 (k + n)).1 (itF fl s0 (k + n)).2 = _
    rw [itF_stop h n, h]
    show ((itF fl s0 k).1, []) = _
    rw [← h]
@[irreducible] noncomputable def farOf (fl : Fl) (s0 : Std) : List (Std × Int) := (itF fl s0 2000).1
theorem far_lvl {fl : Fl} {s0 : Std} {k : Nat} (h : (itF fl s0 k).2 = []) (hk : k ≤ 2000) : farOf fl s0 = (itF fl s0 k).1 := by
  unfold farOf
  have := itF_stop h (2000 - k)
  rw [show k + (2000 - k) = 2000 by lia] at this
  rw [this]
theorem itF_long {fl : Fl} {s0 : Std} : ∀ n, (∀ j < n, (itF fl s0 j).2 ≠ []) → n + (if (itF fl s0 n).2.isEmpty then 0 else 1) ≤ (itF fl s0 n).1.length
  | 0, _ => Nat.le_refl _
  | n + 1, h => by
    have ih := itF_long n fun j hj => h j (by lia)
    have hn := h n (by lia)
    have L := itF_lvl fl s0 n
    have rl := ring_len fl wsneL (vFar n) 0 L.nd L.sub
    have e1 : (itF fl s0 n).2.isEmpty = false := by cases q : (itF fl s0 n).2 with | nil => exact absurd q hn | cons _ _ => rfl
    rw [e1] at ih
    show n + 1 + (if (ring fl wsneL (vFar n) 0 (itF fl s0 n).1 (itF fl s0 n).2).2.isEmpty then 0 else 1) ≤ (ring fl wsneL (vFar n) 0 (itF fl s0 n).1 (itF fl s0 n).2).1.length
    rw [rl]
    cases q : (ring fl wsneL (vFar n) 0 (itF fl s0 n).1 (itF fl s0 n).2).2 with
    | nil => simp at ih ⊢; lia
    | cons _ _ => simp at ih ⊢; lia
theorem itF_ends {fl : Fl} {s0 : Std} (hf : isFloor fl = true) (on : On fl s0) : ∃ k, k ≤ 2000 ∧ (itF fl s0 k).2 = [] := by
  apply Classical.byContradiction
  intro h
  have h' : ∀ j < 1600, (itF fl s0 j).2 ≠ [] := fun j hj e => h ⟨j, by lia, e⟩
  have h1 := itF_long 1600 h'
  have L := itF_lvl fl s0 1600
  have h2 := few hf L.nd (L.on on)
  lia
structure FoundF (fl : Fl) (s0 : Std) (m : List (Std × Int)) : Prop where
  nd : (m.map (·.1)).Nodup
  far : ∀ t b, (t, b) ∈ m → ∃ j : Nat, b = (j : Int) ∧ Dist fl s0 t j
  come : ∀ l t, walk fl l s0 = some t → t ∈ m.map (·.1)
  on : ∀ t ∈ m.map (·.1), On fl t
  len : m.length ≤ 1536
theorem far_found {fl : Fl} {s0 : Std} (hf : isFloor fl = true) (on : On fl s0) : FoundF fl s0 (farOf fl s0) := by
  obtain ⟨k, hk, he⟩ := itF_ends hf on
  have e := far_lvl he hk
  have L := itF_lvl fl s0 k
  rw [e]
  refine ⟨L.nd, fun t b h => let ⟨j, _, h2, h3⟩ := L.far t b h; ⟨j, h2, h3⟩, fun l t hw => ?_, L.on on, few hf L.nd (L.on on)⟩
  have L2 := itF_lvl fl s0 (k + l.length)
  rw [itF_stop he] at L2
  exact L2.come l t (by lia) hw
theorem FoundF.look {fl : Fl} {s0 t : Std} {m : List (Std × Int)} (F : FoundF fl s0 m) {j : Nat} : lookP m t = some (j : Int) ↔ Dist fl s0 t j := by
  constructor
  · intro h
    obtain ⟨k, e, D⟩ := F.far t _ (lookP_some h)
    have : j = k := by lia
    rw [this]
    exact D
  · intro h
    obtain ⟨l, _, hw⟩ := h.ex
    obtain ⟨⟨t', b'⟩, hb, e⟩ := List.mem_map.mp (F.come l t hw)
    cases e
    obtain ⟨k, e, D⟩ := F.far _ _ hb
    rw [lookP_of_mem F.nd hb, e, D.uniq h]
end Die

set_option Elab.async false
set_option linter.all false
set_option maxRecDepth 100000
set_option maxHeartbeats 4000000
/-! d.setdefault(k, []) -/
namespace L2
open PySem PySem.Spec PyProof.Rows
section
variable {prog : Program} {w : World} {K : Type} [DecidableEq K] {knd : HeapKind prog w K} {A : Around} {E : Value → Shared → Prop} {s : Shared}
theorem setDefault_heap {d a : Addr} {xs : List (K × Addr × Value)} {k : K} {v : Value} {Q : Value → Shared → Prop} (hu : knd.room A) (hkey : knd.is s.heap k a) (hm : s.heap.DictOfH knd d xs)
    (hthere : ∀ p, atKey xs k = some p → Q p.2 { s with toks := s.toks + knd.draws k })
    (hnew : atKey xs k = none → ∀ h', h'.DictOfH knd d (xs ++ [(k, a, v)]) → Heap.SameBut d s.heap h' → Q v { s with heap := h', toks := s.toks + knd.draws k })
    (hz : xs.length ≤ sizeLine) : wpAny (model prog w) A (dictSetDefault d (.ref a) v) Q E s := by
  obtain ⟨o, es, ep, ho, hc, hd, he, his, hn⟩ := hm
  unfold dictSetDefault
  try with_reducible refine wpAny_holding ?_
  refine wpAny_bind (knd.pyHash hu hkey ?_)
  refine wpAny_bind (wpAny_dictFind_heap (s := { s with toks := s.toks + knd.draws k }) hu hkey ho hd he his hn ?_ ?_)
  · intro hno
    have hnot : k ∉ xs.map (·.1) := not_mem_keys_of_get hno
    refine wpAny_bind (wpAny_rule (wpAny_bind (wpAny_updateDictKeys (hz := by have e := size_of_entries he; lia) (s := { s with toks := s.toks + knd.draws k }) ho hd (wpAny_pure (hnew (atKey_none_of_get hno) _ ⟨_, _, ep + 1, Heap.get?_update_self _ ho (Obj.isFreed_of_dict (Obj.data_mapDictKeys hd _)),
      hc.mapDictKeys _, Obj.data_mapDictKeys hd _, ?_, ?_, ?_⟩ (Heap.SameBut.update ..))))))
    · simp [he, entryOfKey]
    · intro x hx
      rcases List.mem_append.mp hx with hx | hx
      · exact knd.keeps (his x hx) ho hd (Heap.SameBut.update ..)
      · simp only [List.mem_singleton] at hx
        subst hx
        exact knd.keeps hkey ho hd (Heap.SameBut.update ..)
    · rw [List.map_append, List.nodup_append]
      refine ⟨hn, by simp, ?_⟩
      intro x hx y hy
      simp only [List.map_cons, List.map_nil, List.mem_singleton] at hy
      subst hy
      exact fun e => hnot (e ▸ hx)
  · intro j p hj
    refine wpAny_bind (wpAny_dictEntries (s := { s with toks := s.toks + knd.draws k }) ho hd ?_)
    rw [entry_at he j, hj]
    exact wpAny_bind (wpAny_rule (wpAny_pure (hthere p (atKey_of_get hn hj))))
theorem call_setDefault {d a : Addr} {xs : List (K × Addr × Value)} {k : K} {v : Value} {Q : Value → Shared → Prop} (hu : knd.room A.in1) (hs : (d == sysModules) = false) (hkey : knd.is s.heap k a) (hm : s.heap.DictOfH knd d xs)
    (hthere : ∀ p, atKey xs k = some p → Q p.2 { s with toks := s.toks + knd.draws k })
    (hnew : atKey xs k = none → ∀ h', h'.DictOfH knd d (xs ++ [(k, a, v)]) → Heap.SameBut d s.heap h' → Q v { s with heap := h', toks := s.toks + knd.draws k })
    (hz : xs.length ≤ sizeLine) : wpAny (model prog w) A (call (.builtin "dict.setdefault") [.ref d, .ref a, v]) Q E s := by
  refine wpAny_call_entry F.slot_dict_setdefault hm.typeIs F.entry_dict_setdefault ?_ (F.args_dict_setdefault_3 _ _ _)
  unfold Builtin.«dict.setdefault»
  refine wpAny_bind ?_
  unfold Builtin.Dict.keyAndDefault
  refine wpAny_bind (wpAny_notOrdered_dict hm.typeIs ?_)
  show wpAny _ _ (pure (d, Value.ref a, some v)) _ _ s
  refine wpAny_pure ?_
  show wpAny _ _ (if (d == sysModules) = true then _ else (dictSetDefault d (.ref a) v >>= _)) _ _ s
  rw [if_neg (by rw [hs]; exact Bool.false_ne_true)]
  exact wpAny_bind (setDefault_heap hu hkey hm (fun p hp => wpAny_pure ⟨p.2, rfl, hthere p hp⟩) (fun hn h' hm' hs' => wpAny_pure ⟨v, rfl, hnew hn h' hm' hs'⟩) hz)
end
/-! ### dicts of addresses -/
noncomputable def rAt (kvs : List (PyData × Addr)) (k : PyData) : Option Addr := (kvs.find? fun x => decide (x.1 = k)).map (·.2)
section
variable {K : PySem.W.Frag} {H : Hp}
theorem RepKR.at : ∀ {xs : List DEnt} {kvs : List (PyData × Addr)} (k : PyData), RepKR K H xs kvs → (atKey xs k = none ∧ rAt kvs k = none) ∨ ∃ p l, atKey xs k = some p ∧ rAt kvs k = some l ∧ p.2 = .ref l
  | _, _, k, .nil => .inl ⟨rfl, rfl⟩
  | _, _, k, .cons (k := k') (ka := ka) (l := l) (xs := xs) (kvs := kvs) h1 h2 h3 r => by
    by_cases e : k' = k
    · refine .inr ⟨(ka, .ref l), l, ?_, ?_, rfl⟩
      · unfold atKey; rw [List.find?_cons_of_pos (by simp [e])]; rfl
      · unfold rAt; rw [List.find?_cons_of_pos (by simp [e])]; rfl
    · have e1 : atKey ((k', ka, .ref l) :: xs) k = atKey xs k := by unfold atKey; rw [List.find?_cons_of_neg (by simp [e])]
      have e2 : rAt ((k', l) :: kvs) k = rAt kvs k := by unfold rAt; rw [List.find?_cons_of_neg (by simp [e])]
      rw [e1, e2]
      exact RepKR.at k r
theorem RepKR.length : ∀ {xs : List DEnt} {kvs : List (PyData × Addr)}, RepKR K H xs kvs → xs.length = kvs.length
  | _, _, .nil => rfl
  | _, _, .cons _ _ _ r => by rw [List.length_cons, List.length_cons, RepKR.length r]
theorem RepKR.append : ∀ {xs ys : List DEnt} {kvs lvs : List (PyData × Addr)}, RepKR K H xs kvs → RepKR K H ys lvs → RepKR K H (xs ++ ys) (kvs ++ lvs)
  | _, _, _, _, .nil, s => s
  | _, _, _, _, .cons h1 h2 h3 r, s => .cons h1 h2 h3 (RepKR.append r s)
theorem RepKR.keys {X : Cx} {pins : List (Addr × Obj)} {σ : St} {H : Hp} {s : Shared} (I : Inv X pins σ H s) : ∀ {xs : List DEnt} {kvs : List (PyData × Addr)}, RepKR X.K H xs kvs → ∀ x ∈ xs, (keyKindD X.prog X.w).is s.heap x.1 x.2.1
  | _, _, .nil, x, hx => by cases hx
  | _, _, .cons h1 h2 h3 r, x, hx => by
    rcases List.mem_cons.mp hx with e | hx
    · subst e; exact ⟨h1.krd I h2 rfl, h3⟩
    · exact RepKR.keys I r x hx
theorem DOk.dictOfR {X : Cx} {pins : List (Addr × Obj)} {σ : St} {H : Hp} {s : Shared} (I : Inv X pins σ H s) {a : Addr} {xs : List DEnt} {kvs : List (PyData × Addr)} (h : DOk H a xs) (r : RepKR X.K H xs kvs) : Heap.DictOfH (keyKindD X.prog X.w) s.heap a xs := by
  obtain ⟨ep, h0⟩ := h.at'
  obtain ⟨⟨o, es, e1, e2, e3, e4⟩, _⟩ := I.hok a _ h0
  exact ⟨o, es, ep, e1, e2, e3, e4, r.keys I, h.nd⟩
end
theorem mt_setDefault {X : Cx} (hu : X.A.units + 64 < cLine) : MtR X "dict.setdefault" (fun x xs H Q => ∃ b a l k es kvs, x = .ref b ∧ xs = [.ref a, .ref l] ∧ Rep X.K (fun _ => False) H (.ref a) k ∧ keyB k = true ∧ k.depth ≤ 6 ∧ DOk H b es ∧ RepKR X.K H es kvs ∧ kvs.length < 100000 ∧
    (∀ p, rAt kvs k = some p → Q (.ref p) H) ∧ (rAt kvs k = none → ∀ ep, DOk (upd H b (DCell b (es ++ [(k, a, .ref l)]) ep)) b (es ++ [(k, a, .ref l)]) → Q (.ref l) (upd H b (DCell b (es ++ [(k, a, .ref l)]) ep)))) := by
  intro pins s σ H x xs v us Q I rx rs h
  obtain ⟨b, a, l, k, es, kvs, rfl, rfl, h1, h2, h3, h4, h5, h6, q1, q2⟩ := h
  cases rx
  obtain ⟨u1, u2, rfl, r1, r2⟩ := rs.two
  cases r1
  cases r2
  have hm := h4.dictOfR I h5
  refine call_setDefault (knd := keyKindD X.prog X.w) (in1_room hu) h4.sm ⟨h1.krd I h2 rfl, h3⟩ hm (fun p hp => ?_) (fun hn h' hd sb => ?_) (Nat.le_trans h4.len big_line)
  · rcases h5.at k with ⟨e1, e2⟩ | ⟨p', l', e1, e2, e3⟩
    · rw [e1] at hp; cases hp
    · rw [e1] at hp
      cases hp
      rw [e3]
      exact ⟨.ref l', H, I.tok _, rfl, q1 l' e2⟩
  · rcases h5.at k with ⟨e1, e2⟩ | ⟨p', l', e1, e2, e3⟩
    · obtain ⟨o, es', ep, g1, g2, g3, g4, g5, g6⟩ := hd
      obtain ⟨ep0, h40⟩ := h4.at'
      refine ⟨.ref l, upd H b (DCell b (es ++ [(k, a, .ref l)]) ep), I.write (x := b) (e := b) (h' := h') (by rw [h40]; trivial) (.inl rfl) (fun c w hc hw => by rw [sb.2 c hc]; exact hw) ⟨o, g1⟩ ?_, rfl, q2 e2 ep ⟨⟨ep, upd_same⟩, g6, by rw [List.length_append, h5.length]; simp only [List.length_cons, List.length_nil]; lia, h4.sm⟩⟩
      exact ⟨⟨o, es', g1, g2, g3, g4⟩, ⟨o, g1⟩, fun z1 z2 ⟨o1, es1, k1, k2, k3, k4⟩ hz => ⟨o1, es1, hz _ k1, k2, k3, k4⟩⟩
    · rw [e1] at hn; cases hn
end L2

set_option Elab.async false
set_option linter.all false
set_option maxRecDepth 100000
set_option maxHeartbeats 4000000
/-! owned dicts of owned lists -/
namespace L2
open PySem PySem.Spec PyProof.Rows
section
variable {K : PySem.W.Frag} {H0 H : Hp} {σ : St} {env : Nv} {own : Own}
/-- an owned dict is written: whatever it holds now -/
theorem Sta.putO (Z : Sta K H0 H σ env own) {k : Nat} {a : Addr} {c c' : Ow} {ys zs : List DEnt} {ep ep' : Nat} (ho : own[k]? = some (a, c)) (h : H a = some (DCell a ys ep)) (ok : OwOk K (upd H a (DCell a zs ep')) a c') : Sta K H0 (upd H a (DCell a zs ep')) σ env (own.set k (a, c')) := by
  have hk : k < own.length := (List.getElem?_eq_some_iff.mp ho).1
  have hfst : (own.set k (a, c')).map (·.1) = own.map (·.1) := by
    rw [List.map_set]
    apply List.ext_getElem?
    intro n
    by_cases hn : k = n
    · subst hn
      rw [List.getElem?_set_self (by rw [List.length_map]; exact hk), List.getElem?_map, ho]
      rfl
    · rw [List.getElem?_set_ne hn]
  have hmem : a ∈ own.map (·.1) := List.mem_map.mpr ⟨_, List.mem_of_getElem? ho, rfl⟩
  have h0 := (Z.ow _ (List.mem_of_getElem? ho)).1
  have ext : ∀ {A : Option Addr → Prop}, ¬ A (some a) → Ext K A H (upd H a (DCell a zs ep')) := fun hA => Ext.putD h hA
  have md : ∀ {m : Md} {o : Option Addr}, m.A own H0 H0 o → m.A (own.set k (a, c')) H0 H0 o := fun {m o} z => by
    cases m <;> cases o <;> first | exact z | (simp only [Md.A, hfst] at z ⊢; exact z)
  refine ⟨Z.len, fun b o q => ?_, fun j s q => ?_, fun p hp => ?_, by rw [hfst]; exact Z.nd⟩
  · rw [upd_ne (ne_of_none q h0)]
    exact Z.same _ _ q
  · have z := Z.sl j s q
    cases s with
    | d u => obtain ⟨v, h1, h2⟩ := z; exact ⟨v, h1, (h2.mono (ext (A := Md.safe.A own H0 H0) fun w => w hmem)).weak fun o w => md w⟩
    | f u => obtain ⟨v, h1, h2⟩ := z; exact ⟨v, h1, (h2.mono (ext (A := Md.fresh.A own H0 H0) fun w => w.1 hmem)).weak fun o w => md w⟩
    | o n =>
      obtain ⟨b, c, h1, h2⟩ := z
      by_cases hn : k = n
      · subst hn
        rw [ho] at h1
        cases h1
        exact ⟨a, c', by rw [List.getElem?_set_self hk], h2⟩
      · exact ⟨b, c, by rw [List.getElem?_set_ne hn]; exact h1, h2⟩
    | x C =>
      obtain ⟨b, h1, h2⟩ := z
      exact ⟨b, h1, by rw [upd_ne (exc_ne h2 h)]; exact h2⟩
  · obtain ⟨n, hn, e⟩ := List.getElem_of_mem hp
    rw [List.length_set] at hn
    by_cases hkn : k = n
    · subst hkn
      rw [List.getElem_set_self] at e
      subst e
      exact ⟨h0, ok⟩
    · rw [List.getElem_set_ne hkn] at e
      have hp' : p ∈ own := e ▸ List.getElem_mem hn
      obtain ⟨w1, w2⟩ := Z.ow p hp'
      have ne : p.1 ≠ a := fun q => by
        have e1 : (own.map (·.1))[n]? = some p.1 := by rw [List.getElem?_map, List.getElem?_eq_getElem hn, e]; rfl
        have e2 : (own.map (·.1))[k]? = some a := by rw [List.getElem?_map, ho]; rfl
        rw [q] at e1
        obtain ⟨u1, v1⟩ := List.getElem?_eq_some_iff.mp e1
        obtain ⟨u2, v2⟩ := List.getElem?_eq_some_iff.mp e2
        exact hkn ((List.getElem_inj Z.nd).mp (v2.trans v1.symm))
      refine ⟨w1, ?_⟩
      obtain ⟨b, c⟩ := p
      cases c with
      | l gs =>
        obtain ⟨us, k1, k2⟩ := w2
        exact ⟨us, by rw [upd_ne ne]; exact k1, k2.mono (ext fun w => w)⟩
      | d gs =>
        obtain ⟨us, k1, k2⟩ := w2
        exact ⟨us, k1.up fun ep q => by rw [upd_ne ne]; exact q, k2.mono (ext fun w => w)⟩
      | r gs =>
        obtain ⟨us, k1, k2⟩ := w2
        exact ⟨us, k1.up fun ep q => by rw [upd_ne ne]; exact q, k2.mono (ext fun w => w)⟩
/-- an empty dict may come to hold addresses -/
theorem Sta.toR (Z : Sta K H0 H σ env own) {k : Nat} {a : Addr} (ho : own[k]? = some (a, .d [])) : Sta K H0 H σ env (own.set k (a, .r [])) := by
  have hk : k < own.length := (List.getElem?_eq_some_iff.mp ho).1
  have hfst : (own.set k (a, Ow.r [])).map (·.1) = own.map (·.1) := by
    rw [List.map_set]
    apply List.ext_getElem?
    intro n
    by_cases hn : k = n
    · subst hn
      rw [List.getElem?_set_self (by rw [List.length_map]; exact hk), List.getElem?_map, ho]
      rfl
    · rw [List.getElem?_set_ne hn]
  have md : ∀ {m : Md} {o : Option Addr}, m.A own H0 H0 o → m.A (own.set k (a, Ow.r [])) H0 H0 o := fun {m o} z => by
    cases m <;> cases o <;> first | exact z | (simp only [Md.A, hfst] at z ⊢; exact z)
  refine ⟨Z.len, Z.same, fun j s q => ?_, fun p hp => ?_, by rw [hfst]; exact Z.nd⟩
  · have z := Z.sl j s q
    cases s with
    | d u => obtain ⟨v, h1, h2⟩ := z; exact ⟨v, h1, h2.weak fun o w => md w⟩
    | f u => obtain ⟨v, h1, h2⟩ := z; exact ⟨v, h1, h2.weak fun o w => md w⟩
    | o n =>
      obtain ⟨b, c, h1, h2⟩ := z
      by_cases hn : k = n
      · subst hn
        rw [ho] at h1
        cases h1
        exact ⟨a, .r [], by rw [List.getElem?_set_self hk], h2⟩
      · exact ⟨b, c, by rw [List.getElem?_set_ne hn]; exact h1, h2⟩
    | x C => exact z
  · rcases List.mem_or_eq_of_mem_set hp with hp | rfl
    · exact Z.ow p hp
    · obtain ⟨w1, xs, w2, w3⟩ := Z.ow _ (List.mem_of_getElem? ho)
      cases w3
      exact ⟨w1, [], w2, .nil⟩
end
section
variable {X : Cx} {o e : Expr} {es : List Expr} {to : TE} {t : TA} {name : Str} {apos cpos : Pos} {id : String} {r : V → List V → Hp → VK → Prop}
/-- a method of a dict -/
theorem pe_bmD (slot : Slot "dict" name id) (hty : typeOf (.builtin id) = pure (.type "method_descriptor")) (hm : MtR X id r) (ho : PE X o to) (ha : PA X (e :: es) t)
    (hbase : attributeBase o name X.env (eval o X.env) = eval o X.env := by rfl)
    (hfew : ((backTo cpos (starEach (e :: es) X.env)).all (fun x => !x.1) && (backToKw cpos (keywordEach [] X.env)).all (fun x => x.1.isSome)
      && decide ((e :: es).length + ([] : List Keyword).length + (if ([] : List Keyword).isEmpty then 0 else 1) < 30)) = true := by rfl)
    (hline : (apos.endLine == cpos.line) = true := by rfl) (hs : starEach (e :: es) X.env = (false, eval e X.env) :: starEach es X.env := by rfl) (hplain : (backTo cpos (starEach es X.env)).any (·.1) = false := by rfl) :
    PE X (.Call (.Attribute o name apos) (e :: es) [] cpos) (fun σ H Q => to σ H fun x H1 => (∃ a xs, x = .ref a ∧ DOk H1 a xs) ∧ t σ H1 fun xs H2 => r x xs H2 Q) := by
  intro pins s σ H Q I h
  refine wpAny_Call_method_late hbase hfew hline rfl (thn (ho pins s σ H _ I h) fun v s1 ⟨x, H1, I1, r1, ⟨a, xs, ex, hd⟩, q1⟩ => ?_)
  subst ex
  cases r1
  obtain ⟨des, ep, hr, he⟩ := hd.raw I1
  refine ⟨"dict", id, PySem.F.plainAttrs_dict, slot, hty, hr.type, fun b e => ?_, ?_⟩
  · cases e
    obtain ⟨o, e1, e2, _⟩ := hr
    exact ⟨o, e1, e2.2.1⟩
  · have hA := ha cpos pins s1 σ H1 _ I1 q1
    rw [hs] at hA ⊢
    refine Calls.callWith_builtin (by show (false || (backTo cpos (starEach es X.env)).any (·.1)) = false; rw [hplain] <;> rfl) (Calls.evalArgs_plain ?_)
    exact thn hA fun us s2 ⟨vs, H2, I2, r2, q2⟩ => hm pins s2 σ H2 (.ref a) vs (.ref a) us Q I2 rfl r2 q2
end
section
variable {X : Cx} {D : Ends} {rest : List Stmt} {σ : St} {H H0 : Hp} {env : Nv} {own : Own} {dk : PyData} {ke : Expr} {x y : Str} {i j k : Nat} {a : Addr} {kvs : List (PyData × Addr)} {px py pl apos cpos pos : Pos}
/-- x = y.setdefault(k, []), y an owned dict of addresses -/
theorem w_setdef (hu : X.A.units + 64 < cLine) (hN : X.N.Nodup) (hi : X.N[i]? = some x) (hx : Loc X.env.scope x) (hj : X.N[j]? = some y) (hv : Vis X.env.scope y) (hie : i < env.length) (he : env[j]? = some (some (.o k))) (ho : own[k]? = some (a, .r kvs)) (Z : Sta X.K H0 H σ env own) (hk : Ev .imm X env own ke dk) [kd : KeyD dk]
    (kk1 : ∀ p, rAt kvs dk = some p → ∃ n ds, own[n]? = some (p, .l ds) ∧ ∀ σ' H', Sta X.K H0 H' σ' (env.set i (some (.o n))) own → W X D rest σ' H')
    (kk2 : rAt kvs dk = none → ∀ l σ' H', Sta X.K H0 H' σ' (env.set i (some (.o own.length))) (own.set k (a, .r (kvs ++ [(dk, l)])) ++ [(l, .l [])]) → W X D rest σ' H') (hlen : kvs.length < 100000)
    (hbase : attributeBase (.Name y py) "setdefault" X.env (eval (.Name y py) X.env) = eval (.Name y py) X.env := by rfl)
    (hfew : ((backTo cpos (starEach [ke, .List [] pl] X.env)).all (fun x => !x.1) && (backToKw cpos (keywordEach [] X.env)).all (fun x => x.1.isSome)
      && decide (([ke, .List [] pl] : List Expr).length + ([] : List Keyword).length + (if ([] : List Keyword).isEmpty then 0 else 1) < 30)) = true := by rfl)
    (hline : (apos.endLine == cpos.line) = true := by rfl) (hs : starEach [ke, .List [] pl] X.env = (false, eval ke X.env) :: starEach [.List [] pl] X.env := by rfl) (hs2 : starEach [.List [] pl] X.env = (false, eval (.List [] pl) X.env) :: starEach [] X.env := by rfl) (hplain : (backTo cpos (starEach [.List [] pl] X.env)).any (·.1) = false := by rfl)
    (hsw : swapsWith (.Call (.Attribute (.Name y py) "setdefault" apos) [ke, .List [] pl] [] cpos) (some (.Name x px)) pos.line X.env = pure false := by rfl) (hdb : (y == ("__debug__" : Str)) = false := by decide) (hcd : (y == ("__classdict__" : Str)) = false := by decide)
    (hf : X.fn x = true ∨ X.env.scope.names.lookup x = some .local := by first | exact .inl rfl | exact .inr rfl | assumption) :
    W X D (.Assign [.Name x px] (.Call (.Attribute (.Name y py) "setdefault" apos) [ke, .List [] pl] [] cpos) pos :: rest) σ H := by
  have hl : Ev .new X env own (.List [] pl) (.list []) := ev_lst eva_nil
  refine W.cons (ps_set hN hi hx (pe_bmD F.slot_dict_setdefault F.type_dict_setdefault (mt_setDefault hu) (pe_var hj hv hdb hcd) (pa_cons hk.h (pa_cons hl.h pa_nil hs2) hs) hbase hfew hline hs hplain) hsw hf) ?_
  obtain ⟨b, c, z1, z2⟩ := Z.sl j _ he
  rw [ho] at z1
  cases z1
  obtain ⟨z3, xs, z4, z5⟩ := Z.ow _ (List.mem_of_getElem? ho)
  refine ⟨_, z2, ⟨a, xs, rfl, z4⟩, H0, Z, fun kv H1 s1 r1 => ⟨H0, Z.step s1, fun lv H2 s2 r2 => ?_⟩⟩
  obtain ⟨ka, rfl⟩ := r1.toKey
  obtain ⟨l, ls, rfl, l1, l2⟩ := r2.toList
  cases l2
  have Z2 := (Z.step s1).step s2
  have s3 := s1.trans s2
  have z4' : DOk H2 a xs := z4.up fun ep q => s3 _ _ q
  have z5' := z5.mono s3.ext
  have r1' : Rep X.K (fun _ => False) H2 (.ref ka) dk := (r1.mono s2.ext).weak fun o z => by cases o <;> exact z
  refine ⟨a, ka, l, dk, xs, kvs, rfl, rfl, r1', kd.key, kd.dep, z4', z5', hlen, fun p hp => ?_, fun hn ep hD => ?_⟩
  · obtain ⟨n, ds, hn, kk⟩ := kk1 p hp
    exact kk _ _ (Z2.setS i (.ref p) ⟨p, _, hn, rfl⟩)
  · have hnew : H1 l = none := by
      rcases l1 with l1 | l1
      · exact l1.2
      · exact l1.2.elim
    obtain ⟨l', Z3⟩ := Z2.take i (v := .ref l) (H1 := H1) (ds := []) (fun o z => by cases o with | none => exact z.elim | some b => exact ⟨(Z.step s1).notown z, same_none (Z.step s1).same z⟩) (Z.step s1).sl s2 (r2.weak fun o z => by cases o <;> exact z)
    have el : l' = l := by
      obtain ⟨b, c, k1, k2⟩ := Z3.sl i (.o own.length) (by rw [List.getElem?_set_self hie])
      rw [List.getElem?_append_right (Nat.le_refl _)] at k1
      simp at k1
      rw [List.getElem?_set_self (by rw [← Z.len]; exact hie)] at k2
      obtain ⟨rfl, rfl⟩ := k1
      injection k2 with k2
      injection k2 with k2
      injection k2 with k2
      exact k2.symm
    subst el
    have hk' : k < own.length := (List.getElem?_eq_some_iff.mp ho).1
    obtain ⟨ep0, z40⟩ := z4'.at'
    have Z4 := Z3.putO (k := k) (a := a) (c := .r kvs) (c' := .r (kvs ++ [(dk, l')])) (zs := xs ++ [(dk, ka, .ref l')]) (ep' := ep) (by rw [List.getElem?_append_left hk']; exact ho) z40 ⟨_, hD, (z5'.append (.cons r1' kd.key kd.dep .nil)).mono (Ext.putD z40 fun z => z)⟩
    rw [List.set_append_left _ _ hk'] at Z4
    exact kk2 hn l' _ _ Z4
/-- the lists that an owned dict of addresses leads to -/
inductive RD (own : Own) : List (PyData × Addr) → List (PyData × PyData) → Prop
  | nil : RD own [] []
  | cons {k : PyData} {l : Addr} {n : Nat} {ds : List PyData} {r : List (PyData × Addr)} {s : List (PyData × PyData)} : own[n]? = some (l, .l ds) → RD own r s → RD own ((k, l) :: r) ((k, .list ds) :: s)
theorem RD.rep {K : PySem.W.Frag} (Z : Sta K H0 H σ env own) : ∀ {xs : List DEnt} {kvs : List (PyData × Addr)} {ds : List (PyData × PyData)}, RepKR K H xs kvs → RD own kvs ds → RepKV K (newA H0) H xs ds
  | _, _, _, .nil, .nil => .nil
  | _, _, _, .cons h1 h2 h3 r, .cons g1 g2 => by
    obtain ⟨w1, ys, w2, w3⟩ := Z.ow _ (List.mem_of_getElem? g1)
    exact .cons (y := .ref _) (h1.weak fun _ z => z.elim) h2 h3 rfl (.lst (.inl ⟨w2, w1⟩) (w3.weak fun _ z => z.elim)) (RD.rep Z r g2)
/-- return x, x an owned dict of owned lists -/
theorem w_retR {E : XK} {ds : List (PyData × PyData)} {d' : PyData} {p2 : Pos} (Z : Sta X.K H0 H σ env own) (q : Fin X.K H0 D.rt E (.ok d')) (hN : X.N[i]? = some x) (hv : Vis X.env.scope x) (he : env[i]? = some (some (.o k))) (ho : own[k]? = some (a, .r kvs)) (hr : RD own kvs ds) (h : (.dict ds : PyData) = d')
    (hd : (x == ("__debug__" : Str)) = false := by decide) (hcd : (x == ("__classdict__" : Str)) = false := by decide) : W X D (.Return (some (.Name x p2)) pos :: rest) σ H :=
  W.cons (ps_ret (pe_var hN hv hd hcd)) (by
    subst h
    obtain ⟨b, c, h1, h2⟩ := Z.sl i _ he
    rw [ho] at h1
    cases h1
    obtain ⟨h3, ys, h4, h5⟩ := Z.ow _ (List.mem_of_getElem? ho)
    exact ⟨_, h2, q _ H Z.same (.dct h4 h3 (hr.rep Z h5))⟩)
end
noncomputable instance cmpNotInLI (n : Int) (ns : List Int) : CmpD .NotIn (.int n) (.list (ns.map PyData.int)) (!decide (n ∈ ns)) True := ⟨fun h {_} hu => by rw [← any_int]; exact (cmpNotInL _ _).ok h hu⟩
end L2

set_option Elab.async false
set_option linter.all false
set_option maxRecDepth 100000
set_option maxHeartbeats 4000000
/-! the tops by their places; a call whose argument is refused -/
namespace L2
open PySem PySem.Spec PyProof.Rows
section
variable {X : Cx} {D : Ends} {rest : List Stmt} {σ : St} {H H0 : Hp} {env : Nv} {own : Own} {ds : List PyData} {e : Expr} {es : List Expr} {x y z : Str} {i k k2 : Nat} {f g C : Addr} {fd gd : FuncData} {ps qs : List Str} {E : XK} {px p p2 pos pos2 pos3 : Pos} {sp : Sp}
/-- x = f(g(e, ..)), where g refuses -/
theorem w_setE (F : FnOk X.prog X.w X.K X.mg X.base (CXE X.prog X.w) k f fd ps sp) (G : FnOk X.prog X.w X.K X.mg X.base (CXE X.prog X.w) k2 g gd qs (spC X.K ds (.er C))) (hr : Room k X.A) (hr2 : Room k2 X.A)
    (hg : Gl X y) (hm : X.mg y = some (.ref f)) (hk : PySem.W.keepIn X.K (.ref f) = true) (hb : Binds X.K fd ps []) (hg2 : Gl X z) (hm2 : X.mg z = some (.ref g)) (hk2 : PySem.W.keepIn X.K (.ref g) = true) (hb2 : Binds X.K gd qs [])
    (hE : Passes (CXE X.prog X.w) X E) (hN : X.N.Nodup) (hi : X.N[i]? = some x) (hx : Loc X.env.scope x) (Z : Sta X.K H0 H σ env own) (ha : EvA .any X env own (e :: es) ds) (kE : ∀ H', Same H0 H' → E (.ref C) none H')
    (hdb : (y == ("__debug__" : Str)) = false := by decide) (hdb2 : (z == ("__debug__" : Str)) = false := by decide)
    (he : starEach (e :: es) X.env = (false, eval e X.env) :: starEach es X.env := by rfl) (hpl : (backTo pos2 (starEach es X.env)).any (·.1) = false := by rfl)
    (he2 : starEach [.Call (.Name z p) (e :: es) [] pos2] X.env = (false, eval (.Call (.Name z p) (e :: es) [] pos2) X.env) :: starEach [] X.env := by rfl) (hpl2 : (backTo pos3 (starEach [] X.env)).any (·.1) = false := by rfl)
    (hs : swapsWith (.Call (.Name y p2) [.Call (.Name z p) (e :: es) [] pos2] [] pos3) (some (.Name x px)) pos.line X.env = pure false := by rfl) (hf : X.fn x = true ∨ X.env.scope.names.lookup x = some .local := by first | exact .inl rfl | exact .inr rfl | assumption) :
    W X D (.Assign [.Name x px] (.Call (.Name y p2) [.Call (.Name z p) (e :: es) [] pos2] [] pos3) pos :: rest) σ H :=
  W.cons (ps_set hN hi hx (pe_call F hr hg hm hk hb .nil hE (pa_cons (pe_call G hr2 hg2 hm2 hk2 hb2 .nil hE ha.h hdb2 he hpl) pa_nil he2) hdb he2 hpl2) hs hf) ⟨H0, Z, fun vs H1 s1 r1 => by
    show spC X.K ds (.er C) (vs ++ []) H1 _ E
    rw [List.append_nil]
    exact ⟨r1.weak fun _ _ => trivial, fun H2 s2 => kE H2 ((Z.step s1).step s2).same⟩⟩
end
end L2
namespace Die
open PySem L2
/-! ### tops -/
noncomputable def putTop (m : List (Pl × List Int)) (p : Pl) (t : Int) : List (Pl × List Int) := match lookP m p with
  | some ds => if t ∈ ds then m else m.map (fun x => if x.1 = p then (x.1, ds ++ [t]) else x)
  | none => m ++ [(p, [t])]
noncomputable def topOf (s : Std) : Int := s.2.getD 0 default
noncomputable def topsL (ss : List Std) : List (Pl × List Int) := ss.foldl (fun m s => putTop m s.1 (topOf s)) []
noncomputable abbrev encT (m : List (Pl × List Int)) : List (PyData × PyData) := m.map fun x => (plD x.1, PyData.list (List.map PyData.int x.2))
/-- with the addresses of the lists -/
noncomputable abbrev TM := List (Pl × List Int × Addr)
noncomputable def mOf (M : TM) : List (Pl × List Int) := M.map fun x => (x.1, x.2.1)
noncomputable def kvsM (M : TM) : List (PyData × Addr) := M.map fun x => (plD x.1, x.2.2)
noncomputable def listsM (M : TM) : Own := M.map fun x => (x.2.2, Ow.l (List.map PyData.int x.2.1))
noncomputable def ownM (a0 : Addr) (M : TM) : Own := (a0, Ow.r (kvsM M)) :: listsM M
theorem ownM_len (a0 : Addr) (M : TM) : (ownM a0 M).length = M.length + 1 := by simp [ownM, listsM]
theorem ownM_get {a0 : Addr} {M : TM} {n : Nat} {p : Pl} {ds : List Int} {l : Addr} (h : M[n]? = some (p, ds, l)) : (ownM a0 M)[n + 1]? = some (l, .l (List.map PyData.int ds)) := by
  show (listsM M)[n]? = _
  unfold listsM
  rw [List.getElem?_map, h]
  rfl
theorem map_set_same {α β : Type} {f : α → β} {l : List α} {n : Nat} {x y : α} (h : l[n]? = some x) (e : f y = f x) : (l.set n y).map f = l.map f := by
  rw [List.map_set]
  apply List.ext_getElem?
  intro j
  by_cases hj : n = j
  · subst hj
    have hl : n < l.length := (List.getElem?_eq_some_iff.mp h).1
    rw [List.getElem?_set_self (by rw [List.length_map]; exact hl), List.getElem?_map, h, e]
    rfl
  · rw [List.getElem?_set_ne hj]
theorem ownM_set {a0 : Addr} {M : TM} {n : Nat} {p : Pl} {ds : List Int} {l : Addr} (h : M[n]? = some (p, ds, l)) (t : Int) : (ownM a0 M).set (n + 1) (l, .l (List.map PyData.int ds ++ [.int t])) = ownM a0 (M.set n (p, ds ++ [t], l)) := by
  show (a0, Ow.r (kvsM M)) :: (listsM M).set n _ = (a0, Ow.r (kvsM (M.set n (p, ds ++ [t], l)))) :: listsM (M.set n (p, ds ++ [t], l))
  have e1 : kvsM (M.set n (p, ds ++ [t], l)) = kvsM M := map_set_same h rfl
  have e2 : listsM (M.set n (p, ds ++ [t], l)) = (listsM M).set n (l, .l (List.map PyData.int ds ++ [.int t])) := by
    unfold listsM
    rw [List.map_set]
    simp
  rw [e1, e2]
theorem ownM_new (a0 : Addr) (M : TM) (p : Pl) (l : Addr) : (ownM a0 M).set 0 (a0, .r (kvsM M ++ [(plD p, l)])) ++ [(l, .l [])] = ownM a0 (M ++ [(p, [], l)]) := by
  simp [ownM, kvsM, listsM]
theorem rAt_some {M : TM} {p : Pl} {l : Addr} (h : rAt (kvsM M) (plD p) = some l) : ∃ (n : Nat) (ds : List Int), M[n]? = some (p, ds, l) ∧ lookP (mOf M) p = some ds := by
  induction M with
  | nil => cases h
  | cons x r ih =>
    obtain ⟨q, ds, l'⟩ := x
    by_cases e : q = p
    · subst e
      have e1 : rAt (kvsM ((q, ds, l') :: r)) (plD q) = some l' := by
        show ((((plD q, l') :: kvsM r).find? fun x => decide (x.1 = plD q)).map (·.2)) = _
        rw [List.find?_cons_of_pos (by simp)]
        rfl
      rw [e1] at h
      cases h
      refine ⟨0, ds, rfl, ?_⟩
      show ((((q, ds) :: mOf r).find? fun x => decide (x.1 = q)).map (·.2)) = _
      rw [List.find?_cons_of_pos (by simp)]
      rfl
    · have ne : ¬ plD q = plD p := fun z => e (plD_inj _ _ z)
      have e1 : rAt (kvsM ((q, ds, l') :: r)) (plD p) = rAt (kvsM r) (plD p) := by
        show ((((plD q, l') :: kvsM r).find? fun x => decide (x.1 = plD p)).map (·.2)) = _
        rw [List.find?_cons_of_neg (by simpa using ne)]
        rfl
      rw [e1] at h
      obtain ⟨n, ds2, h1, h2⟩ := ih h
      refine ⟨n + 1, ds2, h1, ?_⟩
      show ((((q, ds) :: mOf r).find? fun x => decide (x.1 = p)).map (·.2)) = _
      rw [List.find?_cons_of_neg (by simpa using e)]
      exact h2
theorem rAt_none {M : TM} {p : Pl} (h : rAt (kvsM M) (plD p) = none) : lookP (mOf M) p = none := by
  rw [lookP_none]
  intro hm
  unfold rAt at h
  rw [Option.map_eq_none_iff, List.find?_eq_none] at h
  obtain ⟨⟨q, ds⟩, hx, e⟩ := List.mem_map.mp hm
  obtain ⟨⟨q', ds', l⟩, hy, e2⟩ := List.mem_map.mp hx
  cases e2
  cases e
  have := h _ (List.mem_map.mpr ⟨_, hy, rfl⟩)
  simp at this
theorem put_old {M : TM} {n : Nat} {p : Pl} {ds : List Int} {l : Addr} {t : Int} (hn : ((mOf M).map (·.1)).Nodup) (h : M[n]? = some (p, ds, l)) (hl : lookP (mOf M) p = some ds) (ht : t ∉ ds) : mOf (M.set n (p, ds ++ [t], l)) = putTop (mOf M) p t := by
  unfold putTop
  rw [hl]
  show _ = if t ∈ ds then _ else _
  rw [if_neg ht]
  unfold mOf
  rw [List.map_map]
  apply List.ext_getElem?
  intro j
  rw [List.getElem?_map, List.getElem?_map]
  have hlen : n < M.length := (List.getElem?_eq_some_iff.mp h).1
  by_cases hj : n = j
  · subst hj
    rw [List.getElem?_set_self hlen, h]
    simp
  · rw [List.getElem?_set_ne hj]
    cases hq : M[j]? with
    | none => rfl
    | some x =>
      have ne : x.1 ≠ p := fun e => by
        have hn' : (M.map (·.1)).Nodup := by
          unfold mOf at hn
          rw [List.map_map] at hn
          exact hn
        have k1 : (M.map (·.1))[j]? = some p := by rw [List.getElem?_map, hq, ← e]; rfl
        have k2 : (M.map (·.1))[n]? = some p := by rw [List.getElem?_map, h]; rfl
        obtain ⟨u1, v1⟩ := List.getElem?_eq_some_iff.mp k1
        obtain ⟨u2, v2⟩ := List.getElem?_eq_some_iff.mp k2
        exact hj ((List.getElem_inj hn').mp (v2.trans v1.symm))
      simp [ne]
theorem put_keys (m : List (Pl × List Int)) (p : Pl) (t : Int) : (putTop m p t).map (·.1) = if p ∈ m.map (·.1) then m.map (·.1) else m.map (·.1) ++ [p] := by
  unfold putTop
  cases h : lookP m p with
  | none =>
    rw [if_neg (lookP_none.mp h)]
    simp
  | some ds =>
    rw [if_pos (lookP_isSome.mp (by rw [h]; rfl))]
    show (if t ∈ ds then m else m.map _).map (·.1) = _
    split
    · rfl
    · rw [List.map_map]
      apply List.map_congr_left
      intro x _
      show (if x.1 = p then (x.1, ds ++ [t]) else x).1 = x.1
      split <;> rfl
theorem put_nodup {m : List (Pl × List Int)} (h : (m.map (·.1)).Nodup) (p : Pl) (t : Int) : ((putTop m p t).map (·.1)).Nodup := by
  rw [put_keys]
  split
  · exact h
  · rename_i hp
    rw [List.nodup_append]
    refine ⟨h, by simp, fun x hx y hy e => ?_⟩
    have : y = p := by simpa using hy
    rw [e, this] at hx
    exact hp hx
theorem put_look (m : List (Pl × List Int)) (p q : Pl) (t : Int) : lookP (putTop m p t) q = if q = p then some (match lookP m p with | some ds => if t ∈ ds then ds else ds ++ [t] | none => [t]) else lookP m q := by
  unfold putTop
  cases h : lookP m p with
  | none =>
    show lookP (m ++ [(p, [t])]) q = _
    rw [lookP_app]
    by_cases e : q = p
    · subst e
      rw [h, if_pos rfl]
      unfold lookP
      rw [List.find?_cons_of_pos (by simp)]
      rfl
    · rw [if_neg e]
      have : lookP [(p, [t])] q = none := by
        rw [lookP_none]
        simpa using e
      rw [this, Option.or_none]
  | some ds =>
    show lookP (if t ∈ ds then m else m.map _) q = _
    by_cases ht : t ∈ ds
    · rw [if_pos ht]
      by_cases e : q = p
      · subst e
        rw [h, if_pos rfl]
        simp [ht]
      · rw [if_neg e]
    · rw [if_neg ht]
      have key : ∀ m : List (Pl × List Int), lookP (m.map fun x => if x.1 = p then (x.1, ds ++ [t]) else x) q = if q = p then (lookP m p).map (fun _ => ds ++ [t]) else lookP m q := fun m => by
        induction m with
        | nil => split <;> rfl
        | cons x r ih =>
          rw [List.map_cons]
          unfold lookP at ih ⊢
          by_cases e1 : x.1 = p
          · by_cases e2 : q = p
            · rw [if_pos e1, List.find?_cons_of_pos (by simp [e1, e2]), if_pos e2, List.find?_cons_of_pos (by simp [e1])]
              rfl
            · have : ¬ x.1 = q := fun z => e2 (z.symm.trans e1)
              rw [if_pos e1, List.find?_cons_of_neg (by simpa using this), ih, if_neg e2, if_neg e2, List.find?_cons_of_neg (by simpa using this)]
          · rw [if_neg e1]
            by_cases e2 : q = p
            · have : ¬ x.1 = q := fun z => e1 (z.trans e2)
              rw [List.find?_cons_of_neg (by simpa using this), ih, if_pos e2, if_pos e2, List.find?_cons_of_neg (by simpa using e1)]
            · by_cases e3 : x.1 = q
              · rw [List.find?_cons_of_pos (by simpa using e3), if_neg e2, List.find?_cons_of_pos (by simpa using e3)]
              · rw [List.find?_cons_of_neg (by simpa using e3), ih, if_neg e2, if_neg e2, List.find?_cons_of_neg (by simpa using e3)]
      rw [key, h]
      by_cases e : q = p
      · rw [if_pos e, if_pos e]
        simp [ht]
      · rw [if_neg e, if_neg e]
/-- what is known of the tops -/
structure TopsOk (ss : List Std) (m : List (Pl × List Int)) : Prop where
  nd : (m.map (·.1)).Nodup
  look : ∀ p, match lookP m p with
    | some ds => ds.Nodup ∧ ds ≠ [] ∧ ∀ t, t ∈ ds ↔ ∃ s ∈ ss, s.1 = p ∧ topOf s = t
    | none => ∀ s ∈ ss, s.1 ≠ p
theorem tops_snoc {ss : List Std} {m : List (Pl × List Int)} (T : TopsOk ss m) (s : Std) : TopsOk (ss ++ [s]) (putTop m s.1 (topOf s)) := by
  refine ⟨put_nodup T.nd _ _, fun p => ?_⟩
  rw [put_look]
  have Tp := T.look p
  by_cases e : p = s.1
  · subst e
    rw [if_pos rfl]
    cases h : lookP m s.1 with
    | none =>
      rw [h] at Tp
      refine ⟨by simp, by simp, fun t => ?_⟩
      constructor
      · intro ht
        have : t = topOf s := by simpa using ht
        exact ⟨s, by simp, rfl, this.symm⟩
      · rintro ⟨s', hs, e1, e2⟩
        rcases List.mem_append.mp hs with hs | hs
        · exact absurd e1 (Tp s' hs)
        · rw [List.mem_singleton.mp hs] at e2
          simp [e2]
    | some ds =>
      rw [h] at Tp
      obtain ⟨h1, h2, h3⟩ := Tp
      have mem : ∀ t, (∃ s' ∈ ss ++ [s], s'.1 = s.1 ∧ topOf s' = t) ↔ t ∈ ds ∨ t = topOf s := fun t => by
        constructor
        · rintro ⟨s', hs, e1, e2⟩
          rcases List.mem_append.mp hs with hs | hs
          · exact .inl ((h3 t).mpr ⟨s', hs, e1, e2⟩)
          · rw [List.mem_singleton.mp hs] at e2
            exact .inr e2.symm
        · rintro (ht | ht)
          · obtain ⟨s', hs, e1, e2⟩ := (h3 t).mp ht
            exact ⟨s', List.mem_append.mpr (.inl hs), e1, e2⟩
          · exact ⟨s, by simp, rfl, ht.symm⟩
      show (if topOf s ∈ ds then ds else ds ++ [topOf s]).Nodup ∧ (if topOf s ∈ ds then ds else ds ++ [topOf s]) ≠ [] ∧ ∀ t, t ∈ (if topOf s ∈ ds then ds else ds ++ [topOf s]) ↔ _
      by_cases ht : topOf s ∈ ds
      · rw [if_pos ht]
        refine ⟨h1, h2, fun t => ?_⟩
        rw [mem]
        constructor
        · exact .inl
        · rintro (h | h)
          · exact h
          · rw [h]; exact ht
      · rw [if_neg ht]
        refine ⟨?_, by simp, fun t => ?_⟩
        · rw [List.nodup_append]
          refine ⟨h1, by simp, fun x hx y hy e => ?_⟩
          have : y = topOf s := by simpa using hy
          rw [e, this] at hx
          exact ht hx
        · rw [mem, List.mem_append, List.mem_singleton]
  · rw [if_neg e]
    cases h : lookP m p with
    | none =>
      rw [h] at Tp
      intro s' hs e1
      rcases List.mem_append.mp hs with hs | hs
      · exact Tp s' hs e1
      · rw [List.mem_singleton.mp hs] at e1
        exact e e1.symm
    | some ds =>
      rw [h] at Tp
      refine ⟨Tp.1, Tp.2.1, fun t => ?_⟩
      rw [Tp.2.2 t]
      constructor
      · rintro ⟨s', hs, e1, e2⟩
        exact ⟨s', List.mem_append.mpr (.inl hs), e1, e2⟩
      · rintro ⟨s', hs, e1, e2⟩
        rcases List.mem_append.mp hs with hs | hs
        · exact ⟨s', hs, e1, e2⟩
        · rw [List.mem_singleton.mp hs] at e1
          exact absurd e1.symm e
theorem tops_ok (ss : List Std) : TopsOk ss (topsL ss) := by
  have key : ∀ (r : List Std) (pre : List Std) (m : List (Pl × List Int)), TopsOk pre m → TopsOk (pre ++ r) (r.foldl (fun m s => putTop m s.1 (topOf s)) m) := by
    intro r
    induction r with
    | nil => intro pre m h; rw [List.append_nil]; exact h
    | cons s r ih =>
      intro pre m h
      have := ih (pre ++ [s]) _ (tops_snoc h s)
      rw [List.append_assoc] at this
      exact this
  have := key ss [] [] ⟨by simp, fun p => fun s hs => by (cases hs)⟩
  exact this
theorem topsL_snoc (ss : List Std) (s : Std) : topsL (ss ++ [s]) = putTop (topsL ss) s.1 (topOf s) := by
  unfold topsL
  rw [List.foldl_append]
  rfl
theorem RD_of {own : Own} : ∀ {M : TM}, (∀ x ∈ M, ∃ n : Nat, own[n]? = some (x.2.2, Ow.l (List.map PyData.int x.2.1))) → RD own (kvsM M) (encT (mOf M))
  | [], _ => .nil
  | x :: r, h => by
    obtain ⟨n, hn⟩ := h x List.mem_cons_self
    exact .cons hn (RD_of fun y hy => h y (List.mem_cons_of_mem _ hy))
theorem encT_at (m : List (Pl × List Int)) (p : Pl) : dAt (encT m) (plD p) = (lookP m p).map fun ds => .list (List.map PyData.int ds) := dAt_map (f := plD) (g := fun ds : List Int => PyData.list (List.map PyData.int ds)) plD_inj p m
end Die

set_option Elab.async false
set_option linter.all false
set_option maxRecDepth 100000
set_option maxHeartbeats 4000000
/-! firm cells -/
namespace Die
open PySem L2
noncomputable def topsAt (fl : Fl) (s0 : Std) : List (Pl × List Int) := topsL ((rowsOf fl s0).map (·.1))
noncomputable def firmU (fl : Fl) (s0 : Std) : List Pl := ((topsAt fl s0).filter fun x => decide ((x.2.length : Int) = 1)).map (·.1)
noncomputable def firmL (fl : Fl) (s0 : Std) : List (List Int) := (firmU fl s0).map fun p => [p.1, p.2]
noncomputable def firmS (fl : Fl) (s0 : Std) : List (List Int) := sortB intItem (firmL fl s0)
theorem firmU_nodup (fl : Fl) (s0 : Std) : (firmU fl s0).Nodup := by
  have nd := (tops_ok ((rowsOf fl s0).map (·.1))).nd
  unfold firmU topsAt
  rw [List.Nodup, List.pairwise_map] at nd ⊢
  exact nd.filter _
theorem mem_firmU {fl : Fl} {s0 : Std} (hf : isFloor fl = true) (on : On fl s0) {p : Pl} : p ∈ firmU fl s0 ↔ (∃ l t, walk fl l s0 = some (p, t)) ∧ ∀ l t l' t', walk fl l s0 = some (p, t) → walk fl l' s0 = some (p, t') → topOf (p, t) = topOf (p, t') := by
  have F := rows_found hf on
  have T := tops_ok ((rowsOf fl s0).map (·.1))
  have key : ∀ s, s ∈ (rowsOf fl s0).map (·.1) ↔ ∃ l, walk fl l s0 = some s := fun s => by
    constructor
    · intro h
      obtain ⟨⟨s', b⟩, hb, rfl⟩ := List.mem_map.mp h
      exact ⟨b, (F.best _ _ hb).w⟩
    · rintro ⟨l, hw⟩
      exact F.come l s hw
  have hT := T.look p
  unfold firmU
  rw [List.mem_map]
  constructor
  · rintro ⟨⟨q, ds⟩, hm, rfl⟩
    obtain ⟨h1, h2⟩ := List.mem_filter.mp hm
    have hl : lookP (topsAt fl s0) q = some ds := lookP_of_mem T.nd h1
    have hl : lookP (topsL ((rowsOf fl s0).map (·.1))) q = some ds := hl
    rw [hl] at hT
    obtain ⟨g1, g2, g3⟩ := hT
    have h2 : (ds.length : Int) = 1 := of_decide_eq_true h2
    obtain ⟨t0, rfl⟩ : ∃ t0, ds = [t0] := List.length_eq_one_iff.mp (by lia)
    refine ⟨?_, fun l t l' t' hw hw' => ?_⟩
    · obtain ⟨s, hs, e1, e2⟩ := (g3 t0).mp (by simp)
      obtain ⟨l, hw⟩ := (key s).mp hs
      obtain ⟨q', t⟩ := s
      cases e1
      exact ⟨l, t, hw⟩
    · have a1 := (g3 (topOf (q, t))).mpr ⟨(q, t), (key _).mpr ⟨l, hw⟩, rfl, rfl⟩
      have a2 := (g3 (topOf (q, t'))).mpr ⟨(q, t'), (key _).mpr ⟨l', hw'⟩, rfl, rfl⟩
      have a1 : topOf (q, t) = t0 := by simpa using a1
      have a2 : topOf (q, t') = t0 := by simpa using a2
      rw [a1, a2]
  · rintro ⟨⟨l, t, hw⟩, hall⟩
    cases hl : lookP (topsL ((rowsOf fl s0).map (·.1))) p with
    | none =>
      rw [hl] at hT
      exact absurd rfl (hT (p, t) ((key _).mpr ⟨l, hw⟩))
    | some ds =>
      rw [hl] at hT
      obtain ⟨g1, g2, g3⟩ := hT
      refine ⟨(p, ds), List.mem_filter.mpr ⟨lookP_some hl, ?_⟩, rfl⟩
      have : ds.length = 1 := by
        match ds, g1, g2, g3 with
        | [], _, g2, _ => exact absurd rfl g2
        | [x], _, _, _ => rfl
        | x :: y :: r, g1, _, g3 =>
          obtain ⟨⟨q1, t1⟩, hs1, e1, e2⟩ := (g3 x).mp (by simp)
          obtain ⟨⟨q2, t2⟩, hs2, e3, e4⟩ := (g3 y).mp (by simp)
          cases e1
          cases e3
          obtain ⟨l1, w1⟩ := (key _).mp hs1
          obtain ⟨l2, w2⟩ := (key _).mp hs2
          have := hall l1 t1 l2 t2 w1 w2
          rw [e2, e4] at this
          rw [this] at g1
          simp at g1
      exact decide_eq_true (by show ((ds.length : Nat) : Int) = 1; lia)
noncomputable def allPl : List Pl := (List.range 8).flatMap fun i : Nat => (List.range 8).map fun j : Nat => ((i : Int), (j : Int))
theorem mem_allPl {p : Pl} (h : 0 ≤ p.1 ∧ p.1 < 8 ∧ 0 ≤ p.2 ∧ p.2 < 8) : p ∈ allPl := by
  obtain ⟨r, c⟩ := p
  simp only at h
  unfold allPl
  refine List.mem_flatMap.mpr ⟨r.toNat, List.mem_range.mpr (by lia), List.mem_map.mpr ⟨c.toNat, List.mem_range.mpr (by lia), ?_⟩⟩
  have e1 : ((r.toNat : Nat) : Int) = r := by lia
  have e2 : ((c.toNat : Nat) : Int) = c := by lia
  rw [e1, e2]
theorem allPl_len : allPl.length = 64 := by decide +kernel
theorem full {α : Type} [DecidableEq α] {l m : List α} (hn : l.Nodup) (hs : ∀ x ∈ l, x ∈ m) (hl : m.length ≤ l.length) : ∀ x ∈ m, x ∈ l := fun x hx => by
  apply Classical.byContradiction
  intro hx'
  have := nodup_le (l := x :: l) (m := m) (List.nodup_cons.mpr ⟨hx', hn⟩) fun y hy => by
    rcases List.mem_cons.mp hy with e | hy
    · rw [e]; exact hx
    · exact hs y hy
  rw [List.length_cons] at this
  lia
noncomputable def rounds : List (List Nat) := [[101, 115, 119, 110], [101, 110, 119, 115], [119, 115, 101, 110], [119, 110, 101, 115]]
theorem rounds_turn : ∀ t ∈ lies, ∀ q ∈ rounds, (rollAll q t).getD 0 default ≠ t.getD 0 default := by decide +kernel
theorem walk_round {fl : Fl} {s : Std} : ∀ {q : List Nat}, (∀ c ∈ q, isRoll c = true) → (∀ k ≤ q.length, isCell fl ((q.take k).foldl goP s.1).1 ((q.take k).foldl goP s.1).2 = true) → walk fl q s = some (q.foldl goP s.1, rollAll q s.2)
  | [], _, _ => rfl
  | c :: r, hr, hc => by
    have h1 := hc 1 (by simp)
    have h1 : isCell fl (goP s.1 c).1 (goP s.1 c).2 = true := by simpa using h1
    have hx : nx fl s c = some (goP s.1 c, roll1 c s.2) := by
      unfold nx
      rw [if_pos ⟨hr c List.mem_cons_self, h1⟩]
    show (nx fl s c).bind (walk fl r) = _
    rw [hx]
    show walk fl r (goP s.1 c, roll1 c s.2) = _
    rw [walk_round (fun d hd => hr d (List.mem_cons_of_mem _ hd)) fun k hk => by
      have := hc (k + 1) (by rw [List.length_cons]; lia)
      simpa using this]
    rfl
theorem firm_few {fl : Fl} {s0 : Std} (hf : isFloor fl = true) (on : On fl s0) : (firmU fl s0).length < 64 := by
  apply Classical.byContradiction
  intro h
  have sub : ∀ p ∈ firmU fl s0, p ∈ allPl := fun p hp => by
    obtain ⟨⟨l, t, hw⟩, _⟩ := (mem_firmU hf on).mp hp
    exact mem_allPl (floor_cell hf (walk_on on hw).cell)
  have all := full (firmU_nodup fl s0) sub (by rw [allPl_len]; lia)
  have cell : ∀ p ∈ allPl, isCell fl p.1 p.2 = true := fun p hp => by
    obtain ⟨⟨l, t, hw⟩, _⟩ := (mem_firmU hf on).mp (all p hp)
    exact (walk_on on hw).cell
  have key : ∀ p ∈ allPl, ∃ q ∈ rounds, (∀ c ∈ q, isRoll c = true) ∧ (∀ k ∈ List.range (q.length + 1), (q.take k).foldl goP p ∈ allPl) ∧ q.foldl goP p = p := by decide +kernel
  obtain ⟨p, t⟩ := s0
  have hp := mem_allPl (floor_cell hf on.cell)
  obtain ⟨q, hq, hr, hc, he⟩ := key p hp
  have hw := walk_round (fl := fl) (s := (p, t)) hr fun k hk => cell _ (hc k (List.mem_range.mpr (by lia)))
  simp only [he] at hw
  have := ((mem_firmU hf on).mp (all p hp)).2 q _ [] t hw rfl
  exact rounds_turn t (mem_lies on.len on.lie) q hq this
theorem tops_len (fl : Fl) (s0 : Std) (hf : isFloor fl = true) (on : On fl s0) : (topsAt fl s0).length ≤ 64 := by
  have T := tops_ok ((rowsOf fl s0).map (·.1))
  have F := rows_found hf on
  have := nodup_le T.nd (m := allPl) fun p hp => by
    have h := T.look p
    have hs := lookP_isSome.mpr hp
    cases hl : lookP (topsL ((rowsOf fl s0).map (·.1))) p with
    | none => rw [hl] at hs; cases hs
    | some ds =>
      rw [hl] at h
      obtain ⟨_, g2, g3⟩ := h
      cases ds with
      | nil => exact absurd rfl g2
      | cons x r =>
        obtain ⟨s, hs, e1, _⟩ := (g3 x).mp (by simp)
        have := F.on s hs
        rw [← e1]
        exact mem_allPl (floor_cell hf this.cell)
  rw [List.length_map, allPl_len] at this
  exact this
end Die

set_option Elab.async false
set_option linter.all false
set_option maxRecDepth 100000
set_option maxHeartbeats 1000000
/-! try around a call whose value is let go -/
namespace L2
open PySem PySem.Spec PyProof.Rows
section
variable {X : Cx} {j : Nat} {y n : Str} {b₀ : Stmt} {suite : List Stmt} {np hpos : Pos} {ts : TS}
end
section
variable {X : Cx} {D : Ends} {rest : List Stmt} {σ : St} {H H0 : Hp} {env : Nv} {own : Own} {e : Expr} {j : Nat}
end
end L2

set_option Elab.async false
set_option linter.all false
set_option maxRecDepth 100000
set_option maxHeartbeats 1000000
/-! what was told is changed: x[0].append(e) -/
namespace L2
open PySem PySem.Spec PyProof.Rows
section
variable {K : PySem.W.Frag} {H0 H : Hp} {σ : St} {env : Nv} {own : Own}
theorem Sta.over (Z : Sta K H0 H σ env own) (i : Nat) (v : V) : Sta K H0 H (σ.set i (some v)) (env.set i none) own := by
  refine ⟨by rw [List.length_set, List.length_set]; exact Z.len, Z.same, fun n s h => ?_, Z.ow, Z.nd⟩
  by_cases hn : i = n
  · subst hn
    by_cases hl : i < env.length
    · rw [List.getElem?_set_self hl] at h; cases h
    · rw [List.getElem?_eq_none (by rw [List.length_set]; lia)] at h; cases h
  · rw [List.getElem?_set_ne hn] at h ⊢
    exact Z.sl n s h
/-- what is owned by no name is given up -/
theorem Sta.bare (Z : Sta K H0 H σ env own) (ho : ∀ (j k : Nat), env[j]? ≠ some (some (Sl.o k))) : Sta K H0 H σ env [] := by
  refine ⟨Z.len, Z.same, fun j s h => ?_, fun p hp => by (cases hp), List.nodup_nil⟩
  have z := Z.sl j s h
  cases s with
  | d u => obtain ⟨v, h1, h2⟩ := z; exact ⟨v, h1, h2.weak fun o w => by cases o with | none => trivial | some a => exact List.not_mem_nil⟩
  | f u => obtain ⟨v, h1, h2⟩ := z; exact ⟨v, h1, h2.weak fun o w => by cases o with | none => exact w | some a => exact ⟨List.not_mem_nil, w.2⟩⟩
  | o k => exact absurd h (ho j k)
  | x C => exact z
end
section
variable {X : Cx} {D : Ends} {rest : List Stmt} {σ : St} {H H0 H1 : Hp} {env env' : Nv} {d : PyData} {e : Expr} {x : Str} {i : Nat} {px p pos sp ip apos cpos : Pos}
theorem w_setX (hN : X.N.Nodup) (hi : X.N[i]? = some x) (hx : Loc X.env.scope x) (Z : Sta X.K H0 H σ env []) (he : Ev .new X env [] e d) (k : ∀ v H1, Same H H1 → Rep X.K (newA H) H1 v d → Sta X.K H1 H1 (σ.set i (some v)) (unF (env.set i (some (.d d)))) [] → W X D rest (σ.set i (some v)) H1)
    (hs : swapsWith e (some (.Name x px)) pos.line X.env = pure false := by rfl) (hf : X.fn x = true ∨ X.env.scope.names.lookup x = some .local := by first | exact .inl rfl | exact .inr rfl | assumption) : W X D (.Assign [.Name x px] e pos :: rest) σ H :=
  w_setM hN hi hx Z he (fun v H1 s1 Z1 r1 => by
    have r2 : Rep X.K (newA H) H1 v d := r1.weak fun o z => by cases o <;> exact z
    have Z2 := (Z1.set i (H1 := H) (v := v) (d := d) (r2.weak fun o z => by cases o with | none => trivial | some a => exact List.not_mem_nil)).rebase.1
    have e0 : lessOwn H1 [] = H1 := by funext b; unfold lessOwn; rw [if_neg (by simp)]
    rw [e0] at Z2
    exact k v H1 s1 r2 Z2) hs hf
theorem w_appX {ds : List PyData} {r : List PyData} {v : V} {H2 : Hp} {n0 : Nat} {ye : Expr} (hN : X.N[i]? = some x) (hvs : Vis X.env.scope x) (Zo : Sta X.K H0 H σ env' []) (s1 : Same H H1) (rv : Rep X.K (newA H) H1 v (.tuple (.list ds :: r))) (hil : i < env'.length) (Z : Sta X.K H1 H2 (σ.set i (some v)) env []) (hd : Ev .imm X env [] ye d) (hlen : ds.length ≤ 99999)
    (kk : ∀ H', Sta X.K H0 H' (σ.set i (some v)) (env'.set i none) [] → W X D rest (σ.set i (some v)) H')
    (hbase : attributeBase (.Subscript (.Name x p) (.Constant (.int 0) n0 ip) sp) "append" X.env (eval (.Subscript (.Name x p) (.Constant (.int 0) n0 ip) sp) X.env) = eval (.Subscript (.Name x p) (.Constant (.int 0) n0 ip) sp) X.env := by rfl)
    (hfew : ((backTo cpos (starEach [ye] X.env)).all (fun x => !x.1) && (backToKw cpos (keywordEach [] X.env)).all (fun x => x.1.isSome) && decide (([ye] : List Expr).length + ([] : List Keyword).length + (if ([] : List Keyword).isEmpty then 0 else 1) < 30)) = true := by rfl)
    (hline : (apos.endLine == cpos.line) = true := by rfl) (hs : starEach [ye] X.env = (false, eval ye X.env) :: starEach [] X.env := by rfl) (hplain : (backTo cpos (starEach [] X.env)).any (·.1) = false := by rfl)
    (hsw : swapsWith (.Call (.Attribute (.Subscript (.Name x p) (.Constant (.int 0) n0 ip) sp) "append" apos) [ye] [] cpos) none pos.line X.env = pure false := by rfl) (hdb : (x == ("__debug__" : Str)) = false := by decide) (hcd : (x == ("__classdict__" : Str)) = false := by decide) :
    W X D (.Expr (.Call (.Attribute (.Subscript (.Name x p) (.Constant (.int 0) n0 ip) sp) "append" apos) [ye] [] cpos) pos :: rest) (σ.set i (some v)) H2 := by
  refine W.cons (ps_expr (pe_bm PySem.F.plainAttrs_list PySem.F.slot_list_append PySem.F.type_list_append mt_append (pe_ix ix_tup (pe_var hN hvs hdb hcd) pe_int (fun _ _ => rfl)) (pa_cons hd.h pa_nil hs) hbase hfew hline hs hplain) hsw) ?_
  obtain ⟨tp, xs, rfl, t1, t2⟩ := rv.toTup
  obtain ⟨x0, hx0, r0⟩ := t2.get (i := 0) (d := .list ds) rfl
  obtain ⟨l, ys, rfl, l1, l2⟩ := r0.toList
  have l1 : H1 l = some (.lst ys) ∧ H l = none := by
    rcases l1 with l1 | l1
    · exact l1
    · exact l1.2.elim
  have s12 : Same H1 H2 := Z.same
  have gi : (σ.set i (some (.ref tp)))[i]? = some (some (.ref tp)) := by rw [List.getElem?_set_self (by rw [← Zo.len]; exact hil)]
  refine ⟨_, gi, tp, xs, 0, .ref l, rfl, rfl, s12.tup t1, atI_nat hx0, .inl ⟨rfl, _, .inl (.inl (s12 _ _ l1.1))⟩, H1, Z, fun w H3 s3 r3 => ?_⟩
  have e3 : H3 l = some (.lst ys) := s3 _ _ (s12 _ _ l1.1)
  refine ⟨l, ys, w, rfl, rfl, e3, Nat.lt_of_lt_of_le (by rw [l2.length]; lia) big_line, kk _ ?_⟩
  have sm : Same H (upd H3 l (.lst (ys ++ [w]))) := fun b o hb => by
    have ne : b ≠ l := fun z => by rw [z, l1.2] at hb; cases hb
    rw [upd_ne ne]
    exact s3 _ _ (s12 _ _ (s1 _ _ hb))
  exact (Zo.step sm).over i _
end
end L2

set_option Elab.async false
set_option linter.all false
set_option maxRecDepth 100000
set_option maxHeartbeats 1000000
/-! what the search tells and what a law finds -/
namespace Die
open PySem L2
/-! ### the same distances -/
noncomputable def distsOf (fl : Fl) (s0 : Std) : List (Std × Int) := (rowsOf fl s0).map fun p => (p.1, ((p.2.length : Nat) : Int))
theorem dist_far {fl : Fl} {s0 : Std} (hf : isFloor fl = true) (on : On fl s0) : eqvD (encF (distsOf fl s0)) (encF (farOf fl s0)) = true := by
  have F := rows_found hf on
  have G := far_found hf on
  unfold eqvD
  have hl : (distsOf fl s0).length = (farOf fl s0).length := by
    have a1 := nodup_le (l := (rowsOf fl s0).map (·.1)) (m := (farOf fl s0).map (·.1)) F.nd fun t ht => by
      obtain ⟨⟨t', b⟩, hb, rfl⟩ := List.mem_map.mp ht
      exact G.come b t' (F.best _ _ hb).w
    have a2 := nodup_le (l := (farOf fl s0).map (·.1)) (m := (rowsOf fl s0).map (·.1)) G.nd fun t ht => by
      obtain ⟨⟨t', b⟩, hb, rfl⟩ := List.mem_map.mp ht
      obtain ⟨j, _, D⟩ := G.far _ _ hb
      obtain ⟨l, _, hw⟩ := D.ex
      exact F.come l t' hw
    simp only [List.length_map] at a1 a2
    unfold distsOf
    rw [List.length_map]
    lia
  rw [List.length_map, List.length_map, decide_eq_true hl, Bool.true_and, List.all_eq_true]
  intro p hp
  obtain ⟨⟨t, v⟩, hm, rfl⟩ := List.mem_map.mp hp
  obtain ⟨⟨t', b⟩, hb, e⟩ := List.mem_map.mp hm
  cases e
  have hd := (F.best _ _ hb).dist
  show (match dAt (encF (farOf fl s0)) (stD t') with | some e => PyData.eqv (.int ((b.length : Nat) : Int)) e | none => false) = true
  rw [encF_at, (G.look (j := b.length)).mpr hd]
  show PyData.eqv (.int _) (.int _) = true
  rw [eqv_int]
  simp
/-! ### the same lies at a place -/
noncomputable def farU (fl : Fl) (s0 : Std) (p : Pl) : List (List Int) := ((farOf fl s0).filter fun z => PyData.eqv (plD z.1.1) (plD p)).map fun z => z.1.2
theorem mem_farU {fl : Fl} {s0 : Std} (hf : isFloor fl = true) (on : On fl s0) {p : Pl} {t : List Int} : t ∈ farU fl s0 p ↔ ∃ l, walk fl l s0 = some (p, t) := by
  have F := far_found hf on
  unfold farU
  rw [List.mem_map]
  constructor
  · rintro ⟨⟨⟨q, u⟩, b⟩, hm, rfl⟩
    obtain ⟨h1, h2⟩ := List.mem_filter.mp hm
    rw [eqv_pl] at h2
    have : q = p := of_decide_eq_true h2
    subst this
    obtain ⟨j, _, D⟩ := F.far _ _ h1
    obtain ⟨l, _, hw⟩ := D.ex
    exact ⟨l, hw⟩
  · rintro ⟨l, hw⟩
    obtain ⟨⟨t', b⟩, hb, e⟩ := List.mem_map.mp (F.come l _ hw)
    cases e
    exact ⟨_, List.mem_filter.mpr ⟨hb, by rw [eqv_pl]; simp⟩, rfl⟩
theorem farU_nodup {fl : Fl} {s0 : Std} (hf : isFloor fl = true) (on : On fl s0) (p : Pl) : (farU fl s0 p).Nodup := by
  have F := far_found hf on
  unfold farU
  have nd := F.nd
  rw [List.Nodup, List.pairwise_map] at nd ⊢
  have nd2 := nd.filter fun z => PyData.eqv (plD z.1.1) (plD p)
  refine List.Pairwise.imp_of_mem (fun {x y} hx hy h e => ?_) nd2
  have hx := (List.mem_filter.mp hx).2
  have hy := (List.mem_filter.mp hy).2
  rw [eqv_pl] at hx hy
  exact h (Prod.ext ((of_decide_eq_true hx).trans (of_decide_eq_true hy).symm) e)
theorem farU_perm {fl : Fl} {s0 : Std} (hf : isFloor fl = true) (on : On fl s0) (p : Pl) : (farU fl s0 p).Perm (endsU fl s0 p) :=
  (List.perm_ext_iff_of_nodup (farU_nodup hf on p) (endsU_nodup hf on p)).mpr fun t => (mem_farU hf on).trans (mem_endsU hf on).symm
theorem farU_sort {fl : Fl} {s0 : Std} (hf : isFloor fl = true) (on : On fl s0) (p : Pl) : sortB intItem (farU fl s0 p) = endsOf fl s0 p := by
  unfold endsOf
  exact sortB_eq intItem ((sortB_perm intItem _).trans (farU_perm hf on p)) (sortB_sorted intItem _)
theorem farU_len {fl : Fl} {s0 : Std} (hf : isFloor fl = true) (on : On fl s0) (p : Pl) : (farU fl s0 p).length ≤ 24 := by
  rw [(farU_perm hf on p).length_eq]
  exact endsU_len hf on p
theorem farU_ne {fl : Fl} {s0 : Std} (hf : isFloor fl = true) (on : On fl s0) (p : Pl) : ∀ t ∈ farU fl s0 p, t ≠ [] := fun t ht e => by
  have := (endsU_lie hf on p t ((farU_perm hf on p).mem_iff.mp ht)).1
  rw [e] at this
  cases this
/-! ### the same firm cells -/
noncomputable def farTops (fl : Fl) (s0 : Std) (p : Pl) : List Int := ((farOf fl s0).filter fun z => PyData.eqv (plD z.1.1) (plD p)).map fun z => topOf z.1
theorem farTops_eq (fl : Fl) (s0 : Std) (p : Pl) : farTops fl s0 p = (farU fl s0 p).map fun t => topOf (p, t) := by
  unfold farTops farU
  rw [List.map_map]
  rfl
noncomputable def steadyB (fl : Fl) (s0 : Std) (p : Pl) : Bool := !(farTops fl s0 p).isEmpty && decide (minI (farTops fl s0 p) = maxI (farTops fl s0 p))
theorem steady_firm {fl : Fl} {s0 : Std} (hf : isFloor fl = true) (on : On fl s0) (p : Pl) : steadyB fl s0 p = true ↔ p ∈ firmU fl s0 := by
  rw [mem_firmU hf on]
  unfold steadyB
  rw [Bool.and_eq_true, farTops_eq]
  constructor
  · rintro ⟨h1, h2⟩
    have hne : (farU fl s0 p).map (fun t => topOf (p, t)) ≠ [] := fun e => by rw [e] at h1; cases h1
    have h2 := of_decide_eq_true h2
    obtain ⟨m1, m2⟩ := minI_spec hne
    obtain ⟨x1, x2⟩ := maxI_spec hne
    refine ⟨?_, fun l t l' t' hw hw' => ?_⟩
    · cases hu : farU fl s0 p with
      | nil => rw [hu] at hne; exact absurd rfl hne
      | cons t r =>
        obtain ⟨l, hw⟩ := (mem_farU hf on (t := t)).mp (by rw [hu]; exact List.mem_cons_self)
        exact ⟨l, t, hw⟩
    · have a1 := List.mem_map_of_mem (f := fun t => topOf (p, t)) ((mem_farU hf on).mpr ⟨l, hw⟩)
      have a2 := List.mem_map_of_mem (f := fun t => topOf (p, t)) ((mem_farU hf on).mpr ⟨l', hw'⟩)
      have := m2 _ a1
      have := m2 _ a2
      have := x2 _ a1
      have := x2 _ a2
      have a3 : topOf (p, t) = _ := rfl
      lia
  · rintro ⟨⟨l, t, hw⟩, hall⟩
    have hm := (mem_farU hf on).mpr ⟨l, hw⟩
    have hne : (farU fl s0 p).map (fun t => topOf (p, t)) ≠ [] := fun e => by
      have := List.map_eq_nil_iff.mp e
      rw [this] at hm
      cases hm
    refine ⟨?_, decide_eq_true ?_⟩
    · cases hu : (farU fl s0 p).map (fun t => topOf (p, t)) with
      | nil => exact absurd hu hne
      | cons _ _ => rfl
    · obtain ⟨m1, _⟩ := minI_spec hne
      obtain ⟨x1, _⟩ := maxI_spec hne
      obtain ⟨t1, ht1, e1⟩ := List.mem_map.mp m1
      obtain ⟨t2, ht2, e2⟩ := List.mem_map.mp x1
      obtain ⟨l1, w1⟩ := (mem_farU hf on).mp ht1
      obtain ⟨l2, w2⟩ := (mem_farU hf on).mp ht2
      rw [← e1, ← e2]
      exact hall l1 t1 l2 t2 w1 w2
/-! ### the cells are in order -/
noncomputable abbrev pl2 (p : Pl) : List Int := [p.1, p.2]
theorem leB_pl {p q : Pl} (h : p.1 < q.1 ∨ (p.1 = q.1 ∧ p.2 ≤ q.2)) : leB intItem (pl2 p) (pl2 q) := by
  obtain ⟨a, b⟩ := p
  obtain ⟨c, d⟩ := q
  simp only at h
  unfold leB
  show lexB intItem [c, d] [a, b] = false
  have h0 : lexB intItem [c, d] [a, b] = if c = a then (if d = b then lexB intItem [] [] else decide (d < b)) else decide (c < a) := by
    show (if c = a then lexB intItem [d] [b] else decide (c < a)) = _
    rfl
  rw [h0]
  by_cases e : c = a
  · rw [if_pos e]
    by_cases e2 : d = b
    · rw [if_pos e2]; rfl
    · rw [if_neg e2]; exact decide_eq_false (by lia)
  · rw [if_neg e]; exact decide_eq_false (by lia)
theorem cells_order (fl : Fl) : ∀ n, ((cellsTo fl n).map pl2).Pairwise (leB intItem) ∧ ∀ p ∈ cellsTo fl n, p.1 < (n : Int)
  | 0 => ⟨List.Pairwise.nil, fun p hp => by (cases hp)⟩
  | n + 1 => by
    obtain ⟨h1, h2⟩ := cells_order fl n
    have hrow : ∀ p ∈ cellsRow fl n, p.1 = (n : Int) := fun p hp => by
      unfold cellsRow at hp
      obtain ⟨j, _, rfl⟩ := List.mem_map.mp hp
      rfl
    rw [cellsTo_succ]
    refine ⟨?_, fun p hp => ?_⟩
    · rw [List.map_append, List.pairwise_append]
      refine ⟨h1, ?_, fun x hx y hy => ?_⟩
      · unfold cellsRow
        rw [List.map_map, List.pairwise_map]
        refine List.Pairwise.filter _ ?_
        refine List.pairwise_lt_range.imp fun {a b} h => ?_
        exact leB_pl (p := ((n : Int), (a : Int))) (q := ((n : Int), (b : Int))) (.inr ⟨rfl, by show (a : Int) ≤ (b : Int); lia⟩)
      · obtain ⟨p, hp, rfl⟩ := List.mem_map.mp hx
        obtain ⟨q, hq, rfl⟩ := List.mem_map.mp hy
        have := h2 p hp
        have := hrow q hq
        exact leB_pl (.inl (by lia))
    · rcases List.mem_append.mp hp with hp | hp
      · have := h2 p hp; lia
      · have := hrow p hp; lia
theorem cells_nodup (fl : Fl) : ∀ n, (cellsTo fl n).Nodup
  | 0 => List.nodup_nil
  | n + 1 => by
    have h2 := (cells_order fl n).2
    rw [cellsTo_succ, List.nodup_append]
    refine ⟨cells_nodup fl n, ?_, fun x hx y hy e => ?_⟩
    · unfold cellsRow
      rw [List.Nodup, List.pairwise_map]
      refine List.Pairwise.filter _ ?_
      exact List.pairwise_lt_range.imp fun h e => by
        have := congrArg Prod.snd e
        simp only at this
        lia
    · have a1 := h2 x hx
      unfold cellsRow at hy
      obtain ⟨j, _, rfl⟩ := List.mem_map.mp hy
      rw [e] at a1
      simp only at a1
      lia
noncomputable def steadyTo (fl : Fl) (s0 : Std) (ps : List Pl) : List Pl := ps.filter (steadyB fl s0)
theorem firm_steady {b : Nat} {fl : Fl} {s0 : Std} (hfl : LFl b fl) (hf : isFloor fl = true) (on : On fl s0) : firmS fl s0 = (steadyTo fl s0 (cellsOf fl)).map pl2 := by
  unfold firmS
  symm
  refine sortB_eq intItem ?_ ?_
  · have : (steadyTo fl s0 (cellsOf fl)).Perm (firmU fl s0) := by
      refine (List.perm_ext_iff_of_nodup ?_ (firmU_nodup fl s0)).mpr fun p => ?_
      · exact (cells_nodup fl fl.length).filter _
      · unfold steadyTo
        rw [List.mem_filter, steady_firm hf on]
        constructor
        · exact fun h => h.2
        · intro h
          obtain ⟨⟨l, t, hw⟩, _⟩ := (mem_firmU hf on).mp h
          exact ⟨(mem_cells hfl p).mpr (walk_on on hw).cell, h⟩
    exact this.map pl2
  · unfold steadyTo
    have := (cells_order fl fl.length).1
    exact this.sublist (List.filter_sublist.map pl2)
end Die

set_option Elab.async false
set_option linter.all false
set_option maxRecDepth 100000
set_option maxHeartbeats 4000000
/-! which slots hold an owned thing: asked by a computation -/
namespace L2
open PySem
noncomputable def notO (n : Nat) : Option Sl → Bool
  | some (.o k) => k != n
  | _ => true
noncomputable def noO (n : Nat) (env : Nv) : Bool := env.all (notO n)
theorem noO_at {n : Nat} {env : Nv} (e : noO n env = true) (j : Nat) : env[j]? ≠ some (some (.o n)) := fun h => by
  have := List.all_eq_true.mp e _ (List.mem_of_getElem? h)
  have : (n != n) = true := this
  simp at this
noncomputable def notOs : Option Sl → Bool
  | some (.o _) => false
  | _ => true
theorem noOs_at {env : Nv} (e : env.all notOs = true) (j k : Nat) : env[j]? ≠ some (some (.o k)) := fun h => by
  have : false = true := List.all_eq_true.mp e _ (List.mem_of_getElem? h)
  cases this
section
variable {K : PySem.W.Frag} {H0 H : Hp} {σ : St} {env : Nv} {own : Own} {a : Addr} {ds : List PyData}
theorem Sta.gives (Z : Sta K H0 H σ env (own ++ [(a, .l ds)])) (i : Nat) (hi : env[i]? = some (some (.o own.length))) (ho : noO own.length (env.set i none) = true) : Sta K H0 H σ (env.set i (some (.f (.list ds)))) own :=
  Z.give hi fun j hj => by
    have := noO_at ho j
    rwa [List.getElem?_set_ne (Ne.symm hj)] at this
theorem Sta.bares (Z : Sta K H0 H σ env own) (ho : env.all notOs = true) : Sta K H0 H σ env [] := Z.bare (noOs_at ho)
end
end L2

set_option Elab.async false
set_option linter.all false
set_option maxRecDepth 100000
set_option maxHeartbeats 4000000
local macro_rules | `(tactic| walk_at "side") => `(tactic| first | trivial | assumption | decide | lia | (exact ⟨by decide, by decide⟩))
namespace D06
open PySem L2
noncomputable def top (i : Nat) : Stmt := PySem.Challenge.pw_rolldie_k06_come_to.main.body.getD i (.Pass ⟨0, 0, 0, 0⟩)
noncomputable abbrev s_across : Stmt := top 8
noncomputable abbrev s_pairs_of : Stmt := top 9
noncomputable abbrev s_has_odd_high : Stmt := top 10
noncomputable abbrev s_is_lie : Stmt := top 11
noncomputable abbrev s_check_lie : Stmt := top 12
noncomputable abbrev s_rolled_once : Stmt := top 13
noncomputable abbrev s_is_row : Stmt := top 19
noncomputable abbrev s_is_floor : Stmt := top 20
noncomputable abbrev s_check_floor : Stmt := top 21
noncomputable abbrev s_is_cell : Stmt := top 22
noncomputable abbrev s_check_place : Stmt := top 23
noncomputable abbrev s_check_stand : Stmt := top 24
noncomputable abbrev s_next_place : Stmt := top 25
noncomputable abbrev s_next_stand : Stmt := top 26
noncomputable abbrev s_first_rows : Stmt := top 29
noncomputable abbrev s_come_to : Stmt := top 30
noncomputable abbrev s_ends : Stmt := top 31
noncomputable abbrev s_tops_by_place : Stmt := top 32
noncomputable abbrev s_firm : Stmt := top 33
noncomputable abbrev s_law_cell_at : Stmt := top 35
noncomputable abbrev s_law_whole : Stmt := top 36
noncomputable abbrev s_law_mix : Stmt := top 37
noncomputable abbrev s_law_pairs : Stmt := top 38
noncomputable abbrev s_law_odd : Stmt := top 39
noncomputable abbrev s_law_is_lie : Stmt := top 40
noncomputable abbrev s_law_lies : Stmt := top 41
noncomputable abbrev s_law_roll : Stmt := top 42
noncomputable abbrev s_law_floor : Stmt := top 44
noncomputable abbrev s_law_cells : Stmt := top 45
noncomputable abbrev s_law_next : Stmt := top 46
noncomputable abbrev s_law_far : Stmt := top 47
noncomputable abbrev s_law_refused : Stmt := top 48
noncomputable abbrev s_law_told : Stmt := top 49
noncomputable abbrev s_law : Stmt := top 50
theorem sc_across : FnScope ["number"] ["number"] (defScope s_across) := ⟨rfl, rfl, rfl, by decide +kernel, rfl, by decide +kernel, by decide +kernel⟩
theorem sc_pairs_of : FnScope ["lie"] ["lie"] (defScope s_pairs_of) := ⟨rfl, rfl, rfl, by decide +kernel, rfl, by decide +kernel, by decide +kernel⟩
theorem sc_has_odd_high : FnScope ["lie", "high"] ["lie"] (defScope s_has_odd_high) := ⟨rfl, rfl, rfl, by decide +kernel, rfl, by decide +kernel, by decide +kernel⟩
theorem sc_is_lie : FnScope ["lie", "pairs", "odd_order"] ["lie"] (defScope s_is_lie) := ⟨rfl, rfl, rfl, by decide +kernel, rfl, by decide +kernel, by decide +kernel⟩
theorem sc_check_lie : FnScope ["lie"] ["lie"] (defScope s_check_lie) := ⟨rfl, rfl, rfl, by decide +kernel, rfl, by decide +kernel, by decide +kernel⟩
theorem sc_rolled_once : FnScope ["lie", "roll", "top", "north", "east"] ["lie", "roll"] (defScope s_rolled_once) := ⟨rfl, rfl, rfl, by decide +kernel, rfl, by decide +kernel, by decide +kernel⟩
theorem sc_is_row : FnScope ["row", "width"] ["row", "width"] (defScope s_is_row) := ⟨rfl, rfl, rfl, by decide +kernel, rfl, by decide +kernel, by decide +kernel⟩
theorem sc_is_floor : FnScope ["floor", "width"] ["floor"] (defScope s_is_floor) := ⟨rfl, rfl, rfl, by decide +kernel, rfl, by decide +kernel, by decide +kernel⟩
theorem sc_check_floor : FnScope ["floor"] ["floor"] (defScope s_check_floor) := ⟨rfl, rfl, rfl, by decide +kernel, rfl, by decide +kernel, by decide +kernel⟩
theorem sc_is_cell : FnScope ["floor", "place", "row", "column"] ["floor", "place"] (defScope s_is_cell) := ⟨rfl, rfl, rfl, by decide +kernel, rfl, by decide +kernel, by decide +kernel⟩
theorem sc_check_place : FnScope ["floor", "place"] ["floor", "place"] (defScope s_check_place) := ⟨rfl, rfl, rfl, by decide +kernel, rfl, by decide +kernel, by decide +kernel⟩
theorem sc_check_stand : FnScope ["floor", "stand"] ["floor", "stand"] (defScope s_check_stand) := ⟨rfl, rfl, rfl, by decide +kernel, rfl, by decide +kernel, by decide +kernel⟩
theorem sc_next_place : FnScope ["place", "roll", "step"] ["place", "roll"] (defScope s_next_place) := ⟨rfl, rfl, rfl, by decide +kernel, rfl, by decide +kernel, by decide +kernel⟩
theorem sc_next_stand : FnScope ["floor", "stand", "roll", "place"] ["floor", "stand", "roll"] (defScope s_next_stand) := ⟨rfl, rfl, rfl, by decide +kernel, rfl, by decide +kernel, by decide +kernel⟩
theorem sc_first_rows : FnScope ["floor", "start", "rows", "edge", "beyond", "stand", "roll", "after"] ["floor", "start"] (defScope s_first_rows) := ⟨rfl, rfl, rfl, by decide +kernel, rfl, by decide +kernel, by decide +kernel⟩
theorem sc_come_to : FnScope ["floor", "stand", "rows", "distances", "found"] ["floor", "stand"] (defScope s_come_to) := ⟨rfl, rfl, rfl, by decide +kernel, rfl, by decide +kernel, by decide +kernel⟩
theorem sc_ends : FnScope ["floor", "stand", "place"] ["floor", "stand", "place"] (defScope s_ends) := ⟨rfl, rfl, rfl, by decide +kernel, rfl, by decide +kernel, by decide +kernel⟩
theorem sc_tops_by_place : FnScope ["stands", "tops", "stand", "top", "seen"] ["stands"] (defScope s_tops_by_place) := ⟨rfl, rfl, rfl, by decide +kernel, rfl, by decide +kernel, by decide +kernel⟩
theorem sc_firm : FnScope ["floor", "stand", "tops"] ["floor", "stand"] (defScope s_firm) := ⟨rfl, rfl, rfl, by decide +kernel, rfl, by decide +kernel, by decide +kernel⟩
theorem sc_law_cell_at : FnScope ["script", "k"] ["script", "k"] (defScope s_law_cell_at) := ⟨rfl, rfl, rfl, by decide +kernel, rfl, by decide +kernel, by decide +kernel⟩
theorem sc_law_whole : FnScope ["x"] ["x"] (defScope s_law_whole) := ⟨rfl, rfl, rfl, by decide +kernel, rfl, by decide +kernel, by decide +kernel⟩
theorem sc_law_mix : FnScope ["cell", "k", "mixed"] ["cell", "k"] (defScope s_law_mix) := ⟨rfl, rfl, rfl, by decide +kernel, rfl, by decide +kernel, by decide +kernel⟩
theorem sc_law_pairs : FnScope ["lie"] ["lie"] (defScope s_law_pairs) := ⟨rfl, rfl, rfl, by decide +kernel, rfl, by decide +kernel, by decide +kernel⟩
theorem sc_law_odd : FnScope ["row", "count", "k"] ["row"] (defScope s_law_odd) := ⟨rfl, rfl, rfl, by decide +kernel, rfl, by decide +kernel, by decide +kernel⟩
theorem sc_law_is_lie : FnScope ["lie", "great"] ["lie"] (defScope s_law_is_lie) := ⟨rfl, rfl, rfl, by decide +kernel, rfl, by decide +kernel, by decide +kernel⟩
theorem sc_law_lies : FnScope ["found", "top", "north"] [] (defScope s_law_lies) := ⟨rfl, rfl, rfl, by decide +kernel, rfl, by decide +kernel, by decide +kernel⟩
theorem sc_law_roll : FnScope ["lie", "roll"] ["lie", "roll"] (defScope s_law_roll) := ⟨rfl, rfl, rfl, by decide +kernel, rfl, by decide +kernel, by decide +kernel⟩
theorem sc_law_floor : FnScope ["script", "start", "most", "cell", "rows", "columns", "rare", "found", "row", "line", "column", "mixed"] ["script", "start", "most"] (defScope s_law_floor) := ⟨rfl, rfl, rfl, by decide +kernel, rfl, by decide +kernel, by decide +kernel⟩
theorem sc_law_cells : FnScope ["floor", "found", "row"] ["floor"] (defScope s_law_cells) := ⟨rfl, rfl, rfl, by decide +kernel, rfl, by decide +kernel, by decide +kernel⟩
theorem sc_law_next : FnScope ["floor", "stand", "roll", "row", "column"] ["floor", "stand", "roll"] (defScope s_law_next) := ⟨rfl, rfl, rfl, by decide +kernel, rfl, by decide +kernel, by decide +kernel⟩
theorem sc_law_far : FnScope ["floor", "stand", "found", "edge", "steps", "more", "here", "roll", "then"] ["floor", "stand"] (defScope s_law_far) := ⟨rfl, rfl, rfl, by decide +kernel, rfl, by decide +kernel, by decide +kernel⟩
theorem sc_law_refused : FnScope ["marks", "which"] ["marks", "which"] (defScope s_law_refused) := ⟨rfl, rfl, rfl, by decide +kernel, rfl, by decide +kernel, by decide +kernel⟩
theorem sc_law_told : FnScope ["floor", "stand", "place", "found", "marks", "e"] ["floor", "stand", "place"] (defScope s_law_told) := ⟨rfl, rfl, rfl, by decide +kernel, rfl, by decide +kernel, by decide +kernel⟩
theorem sc_law : FnScope ["script", "kind", "floor", "cells", "cell", "stand", "due", "handed", "found", "place", "rows", "told", "steady", "one", "tops"] ["script"] (defScope s_law) := ⟨rfl, rfl, rfl, by decide +kernel, rfl, by decide +kernel, by decide +kernel⟩
set_option genInjectivity false in
set_option genSizeOf false in
structure Adr where
  f_across : Addr
  d_across : FuncData
  f_pairs_of : Addr
  d_pairs_of : FuncData
  f_has_odd_high : Addr
  d_has_odd_high : FuncData
  f_is_lie : Addr
  d_is_lie : FuncData
  f_check_lie : Addr
  d_check_lie : FuncData
  f_rolled_once : Addr
  d_rolled_once : FuncData
  f_is_row : Addr
  d_is_row : FuncData
  f_is_floor : Addr
  d_is_floor : FuncData
  f_check_floor : Addr
  d_check_floor : FuncData
  f_is_cell : Addr
  d_is_cell : FuncData
  f_check_place : Addr
  d_check_place : FuncData
  f_check_stand : Addr
  d_check_stand : FuncData
  f_next_place : Addr
  d_next_place : FuncData
  f_next_stand : Addr
  d_next_stand : FuncData
  f_first_rows : Addr
  d_first_rows : FuncData
  f_come_to : Addr
  d_come_to : FuncData
  f_ends : Addr
  d_ends : FuncData
  f_tops_by_place : Addr
  d_tops_by_place : FuncData
  f_firm : Addr
  d_firm : FuncData
  f__law_cell_at : Addr
  d__law_cell_at : FuncData
  f__law_whole : Addr
  d__law_whole : FuncData
  f__law_mix : Addr
  d__law_mix : FuncData
  f__law_pairs : Addr
  d__law_pairs : FuncData
  f__law_odd : Addr
  d__law_odd : FuncData
  f__law_is_lie : Addr
  d__law_is_lie : FuncData
  f__law_lies : Addr
  d__law_lies : FuncData
  f__law_roll : Addr
  d__law_roll : FuncData
  f__law_floor : Addr
  d__law_floor : FuncData
  f__law_cells : Addr
  d__law_cells : FuncData
  f__law_next : Addr
  d__law_next : FuncData
  f__law_far : Addr
  d__law_far : FuncData
  f__law_refused : Addr
  d__law_refused : FuncData
  f__law_told : Addr
  d__law_told : FuncData
  f_law : Addr
  d_law : FuncData
  c_DieError : Addr
  c_NoFloor : Addr
  c_NoCell : Addr
  c_NoLie : Addr
  c_NoRoll : Addr
  c_NoWay : Addr
  t_CELL : Tok
  t_GAP : Tok
  t_MOST : Tok
  o_STEPS : Addr
  t_ROLLS : Tok
structure Txt (w : World) (K : PySem.W.Frag) (mg : Str → Option Value) (a : Adr) : Prop where
  A_across : FnAt K mg "across" s_across ["number"] a.f_across a.d_across
  A_pairs_of : FnAt K mg "pairs_of" s_pairs_of ["lie"] a.f_pairs_of a.d_pairs_of
  A_has_odd_high : FnAt K mg "has_odd_high" s_has_odd_high ["lie"] a.f_has_odd_high a.d_has_odd_high
  A_is_lie : FnAt K mg "is_lie" s_is_lie ["lie"] a.f_is_lie a.d_is_lie
  A_check_lie : FnAt K mg "check_lie" s_check_lie ["lie"] a.f_check_lie a.d_check_lie
  A_rolled_once : FnAt K mg "rolled_once" s_rolled_once ["lie", "roll"] a.f_rolled_once a.d_rolled_once
  A_is_row : FnAt K mg "is_row" s_is_row ["row", "width"] a.f_is_row a.d_is_row
  A_is_floor : FnAt K mg "is_floor" s_is_floor ["floor"] a.f_is_floor a.d_is_floor
  A_check_floor : FnAt K mg "check_floor" s_check_floor ["floor"] a.f_check_floor a.d_check_floor
  A_is_cell : FnAt K mg "is_cell" s_is_cell ["floor", "place"] a.f_is_cell a.d_is_cell
  A_check_place : FnAt K mg "check_place" s_check_place ["floor", "place"] a.f_check_place a.d_check_place
  A_check_stand : FnAt K mg "check_stand" s_check_stand ["floor", "stand"] a.f_check_stand a.d_check_stand
  A_next_place : FnAt K mg "next_place" s_next_place ["place", "roll"] a.f_next_place a.d_next_place
  A_next_stand : FnAt K mg "next_stand" s_next_stand ["floor", "stand", "roll"] a.f_next_stand a.d_next_stand
  A_first_rows : FnAt K mg "first_rows" s_first_rows ["floor", "start"] a.f_first_rows a.d_first_rows
  A_come_to : FnAt K mg "come_to" s_come_to ["floor", "stand"] a.f_come_to a.d_come_to
  A_ends : FnAt K mg "ends" s_ends ["floor", "stand", "place"] a.f_ends a.d_ends
  A_tops_by_place : FnAt K mg "tops_by_place" s_tops_by_place ["stands"] a.f_tops_by_place a.d_tops_by_place
  A_firm : FnAt K mg "firm" s_firm ["floor", "stand"] a.f_firm a.d_firm
  A__law_cell_at : FnAt K mg "_law_cell_at" s_law_cell_at ["script", "k"] a.f__law_cell_at a.d__law_cell_at
  A__law_whole : FnAt K mg "_law_whole" s_law_whole ["x"] a.f__law_whole a.d__law_whole
  A__law_mix : FnAt K mg "_law_mix" s_law_mix ["cell", "k"] a.f__law_mix a.d__law_mix
  A__law_pairs : FnAt K mg "_law_pairs" s_law_pairs ["lie"] a.f__law_pairs a.d__law_pairs
  A__law_odd : FnAt K mg "_law_odd" s_law_odd ["row"] a.f__law_odd a.d__law_odd
  A__law_is_lie : FnAt K mg "_law_is_lie" s_law_is_lie ["lie"] a.f__law_is_lie a.d__law_is_lie
  A__law_lies : FnAt K mg "_law_lies" s_law_lies [] a.f__law_lies a.d__law_lies
  A__law_roll : FnAt K mg "_law_roll" s_law_roll ["lie", "roll"] a.f__law_roll a.d__law_roll
  A__law_floor : FnAt K mg "_law_floor" s_law_floor ["script", "start", "most"] a.f__law_floor a.d__law_floor
  A__law_cells : FnAt K mg "_law_cells" s_law_cells ["floor"] a.f__law_cells a.d__law_cells
  A__law_next : FnAt K mg "_law_next" s_law_next ["floor", "stand", "roll"] a.f__law_next a.d__law_next
  A__law_far : FnAt K mg "_law_far" s_law_far ["floor", "stand"] a.f__law_far a.d__law_far
  A__law_refused : FnAt K mg "_law_refused" s_law_refused ["marks", "which"] a.f__law_refused a.d__law_refused
  A__law_told : FnAt K mg "_law_told" s_law_told ["floor", "stand", "place"] a.f__law_told a.d__law_told
  A_law : FnAt K mg "law" s_law ["script"] a.f_law a.d_law
  m_DieError : mg "DieError" = some (.ref a.c_DieError)
  m_NoFloor : mg "NoFloor" = some (.ref a.c_NoFloor)
  m_NoCell : mg "NoCell" = some (.ref a.c_NoCell)
  m_NoLie : mg "NoLie" = some (.ref a.c_NoLie)
  m_NoRoll : mg "NoRoll" = some (.ref a.c_NoRoll)
  m_NoWay : mg "NoWay" = some (.ref a.c_NoWay)
  x_NoRoll : PySem.W.excIn K a.c_NoRoll veTail "ValueError.__new__" = true
  e_NoRoll : ExcCls K a.c_NoRoll
  t_NoRoll : Catches K a.c_NoRoll a.c_DieError
  i_NoRoll_DieError : PySem.W.kitOne K (.ref a.c_NoRoll) (.ref a.c_DieError) = some true
  i_NoRoll_NoFloor : PySem.W.kitOne K (.ref a.c_NoRoll) (.ref a.c_NoFloor) = some false
  i_NoRoll_NoCell : PySem.W.kitOne K (.ref a.c_NoRoll) (.ref a.c_NoCell) = some false
  i_NoRoll_NoLie : PySem.W.kitOne K (.ref a.c_NoRoll) (.ref a.c_NoLie) = some false
  i_NoRoll_NoRoll : PySem.W.kitOne K (.ref a.c_NoRoll) (.ref a.c_NoRoll) = some true
  i_NoRoll_NoWay : PySem.W.kitOne K (.ref a.c_NoRoll) (.ref a.c_NoWay) = some false
  i_NoRoll_ValueError : PySem.W.kitOne K (.ref a.c_NoRoll) (.type "ValueError") = some true
  x_NoLie : PySem.W.excIn K a.c_NoLie veTail "ValueError.__new__" = true
  e_NoLie : ExcCls K a.c_NoLie
  t_NoLie : Catches K a.c_NoLie a.c_DieError
  i_NoLie_DieError : PySem.W.kitOne K (.ref a.c_NoLie) (.ref a.c_DieError) = some true
  i_NoLie_NoFloor : PySem.W.kitOne K (.ref a.c_NoLie) (.ref a.c_NoFloor) = some false
  i_NoLie_NoCell : PySem.W.kitOne K (.ref a.c_NoLie) (.ref a.c_NoCell) = some false
  i_NoLie_NoLie : PySem.W.kitOne K (.ref a.c_NoLie) (.ref a.c_NoLie) = some true
  i_NoLie_NoRoll : PySem.W.kitOne K (.ref a.c_NoLie) (.ref a.c_NoRoll) = some false
  i_NoLie_NoWay : PySem.W.kitOne K (.ref a.c_NoLie) (.ref a.c_NoWay) = some false
  i_NoLie_ValueError : PySem.W.kitOne K (.ref a.c_NoLie) (.type "ValueError") = some true
  x_NoFloor : PySem.W.excIn K a.c_NoFloor veTail "ValueError.__new__" = true
  e_NoFloor : ExcCls K a.c_NoFloor
  t_NoFloor : Catches K a.c_NoFloor a.c_DieError
  i_NoFloor_DieError : PySem.W.kitOne K (.ref a.c_NoFloor) (.ref a.c_DieError) = some true
  i_NoFloor_NoFloor : PySem.W.kitOne K (.ref a.c_NoFloor) (.ref a.c_NoFloor) = some true
  i_NoFloor_NoCell : PySem.W.kitOne K (.ref a.c_NoFloor) (.ref a.c_NoCell) = some false
  i_NoFloor_NoLie : PySem.W.kitOne K (.ref a.c_NoFloor) (.ref a.c_NoLie) = some false
  i_NoFloor_NoRoll : PySem.W.kitOne K (.ref a.c_NoFloor) (.ref a.c_NoRoll) = some false
  i_NoFloor_NoWay : PySem.W.kitOne K (.ref a.c_NoFloor) (.ref a.c_NoWay) = some false
  i_NoFloor_ValueError : PySem.W.kitOne K (.ref a.c_NoFloor) (.type "ValueError") = some true
  x_NoCell : PySem.W.excIn K a.c_NoCell veTail "ValueError.__new__" = true
  e_NoCell : ExcCls K a.c_NoCell
  t_NoCell : Catches K a.c_NoCell a.c_DieError
  i_NoCell_DieError : PySem.W.kitOne K (.ref a.c_NoCell) (.ref a.c_DieError) = some true
  i_NoCell_NoFloor : PySem.W.kitOne K (.ref a.c_NoCell) (.ref a.c_NoFloor) = some false
  i_NoCell_NoCell : PySem.W.kitOne K (.ref a.c_NoCell) (.ref a.c_NoCell) = some true
  i_NoCell_NoLie : PySem.W.kitOne K (.ref a.c_NoCell) (.ref a.c_NoLie) = some false
  i_NoCell_NoRoll : PySem.W.kitOne K (.ref a.c_NoCell) (.ref a.c_NoRoll) = some false
  i_NoCell_NoWay : PySem.W.kitOne K (.ref a.c_NoCell) (.ref a.c_NoWay) = some false
  i_NoCell_ValueError : PySem.W.kitOne K (.ref a.c_NoCell) (.type "ValueError") = some true
  m_CELL : mg "CELL" = some (.str (tx [46]) a.t_CELL)
  m_GAP : mg "GAP" = some (.str (tx [35]) a.t_GAP)
  m_MOST : mg "MOST" = some (.int 8 a.t_MOST)
  m_STEPS : mg "STEPS" = some (.ref a.o_STEPS)
  q_STEPS : CDict w K a.o_STEPS [(101, [0, 1]), (110, [-1, 0]), (115, [1, 0]), (119, [0, -1])]
  m_ROLLS : mg "ROLLS" = some (.str (tx [101, 110, 115, 119]) a.t_ROLLS)
  n_ValueError : mg "ValueError" = none
  n_all : mg "all" = none
  n_bool : mg "bool" = none
  n_dict : mg "dict" = none
  n_int : mg "int" = none
  n_isinstance : mg "isinstance" = none
  n_len : mg "len" = none
  n_list : mg "list" = none
  n_max : mg "max" = none
  n_min : mg "min" = none
  n_range : mg "range" = none
  n_sorted : mg "sorted" = none
open Die
section
variable {P : Program} {w : World} {K : PySem.W.Frag} {mg : Str → Option Value} {base : Heap} {a : Adr}
theorem c_across (T : Txt w K mg a) {n : Int} : CD P w K mg base 1 a.f_across a.d_across ["number"] [.int n] (.ok (.int (7 - n))) := by
  refine T.A_across.F.okC sc_across rfl (fun cdv A outer s H0 σ Q E hr Z q => ?_)
  refine w_ret Z q (ev_bin ev_int (ev_nm 0 rfl) (hs := (by walk_at "side"))) ?_
  rfl
theorem c_pairs_of (T : Txt w K mg a) {t : List Int} (h3 : t.length = 3 := by first | rfl | assumption | lia) : CD P w K mg base 2 a.f_pairs_of a.d_pairs_of ["lie"] [lieD t] (.ok (.list (List.map PyData.int (prs t)))) := by
  refine T.A_pairs_of.F.okC sc_pairs_of rfl (fun cdv A outer s H0 σ Q E hr Z q => ?_)
  refine w_ret Z q (ev_comp0  ["lie"] s_pairs_of ["number"] [none] rfl rfl rfl (evi_val (ev_nm 0 rfl)) (fun _ _ _ _ => pg_name (i := 0) (show (["number"] : List Str).Nodup by decide +kernel) rfl (Or.inl rfl)) (fun _ _ _ _ z hz => (ev_callB rfl hr.units rfl T.n_min My.boot_min (eva_cons (ev_nm 0 rfl) (eva_cons (ev_call (c_across (P := P) (w := w) (base := base) T) (hr.mono (by decide)) rfl T.A_across.m T.A_across.k T.A_across.b (eva_cons (ev_nm 0 rfl) eva_nil)) eva_nil)) (hs := (by walk_at "side")))) (hlen := (by lia))) ?_
  unfold prs
  rw [List.map_map]
  rfl
theorem c_has_odd_high (T : Txt w K mg a) {t : List Int} (h3 : t.length = 3 := by first | rfl | assumption | lia) : CD P w K mg base 1 a.f_has_odd_high a.d_has_odd_high ["lie"] [lieD t] (.ok (.bool (oddHigh t))) := by
  refine T.A_has_odd_high.F.okC sc_has_odd_high rfl (fun cdv A outer s H0 σ Q E hr Z q => ?_)
  refine (w_setComp (i := 1) sc_has_odd_high.nd rfl (Or.inl rfl) Z ["lie", "high"] s_has_odd_high ["number"] [none] rfl rfl rfl (evi_val (ev_nm 0 rfl)) (fun _ _ _ _ => pg_name (i := 0) (show (["number"] : List Str).Nodup by decide +kernel) rfl (Or.inl rfl)) (fun _ _ _ _ z hz => evif_one (evt_cmp hr.units (ev_nm 0 rfl) ev_int (hs := (by walk_at "side")))) (fun _ _ _ _ z hz hg => (ev_nm 0 rfl)) ?_ (hlen := (by lia))); intro σ H Z
  refine w_ret Z q (ev_cmp hr.units (ev_bin (ev_callB rfl hr.units rfl T.n_len PySem.boot_len (eva_cons (ev_nm 1 rfl) eva_nil) (hs := (by walk_at "side"))) ev_int (hs := (by decide))) ev_int (hs := (by walk_at "side"))) ?_
  rfl
theorem c_is_lie (T : Txt w K mg a) {t : List Int} (h3 : t.length = 3 := by first | rfl | assumption | lia) : CD P w K mg base 3 a.f_is_lie a.d_is_lie ["lie"] [lieD t] (.ok (.bool (isLie t))) := by
  obtain ⟨x, y, z, rfl⟩ := three h3
  refine T.A_is_lie.F.okC sc_is_lie rfl (fun cdv A outer s H0 σ Q E hr Z q => ?_)
  refine w_set (i := 1) sc_is_lie.nd rfl (Or.inl rfl) Z (ev_as (d' := .list (List.map PyData.int [pr x, pr y, pr z])) (ev_call (c_pairs_of (P := P) (w := w) (base := base) T) (hr.mono (by decide)) rfl T.A_pairs_of.m T.A_pairs_of.k T.A_pairs_of.b (eva_cons (ev_nm 0 rfl) eva_nil)) (by first | rfl | assumption | decide +kernel | (simp only [List.map_append, List.map_cons, List.map_nil]) | (show PyData.list _ = PyData.list (List.map _ (_ ++ _ ++ _)); rw [List.map_append, List.map_append]; rfl) | (rw [List.map_map]; rfl))) ?_; intro σ H Z
  refine w_if Z (evt_cmp hr.units (ev_callB rfl hr.units rfl T.n_sorted PyProof.Rows.boot_sorted (eva_cons (ev_nm 1 rfl) eva_nil) (hs := (by show 3 < 64; decide))) (ev_as (d' := .list (List.map PyData.int [1, 2, 3])) (ev_lst (eva_cons ev_int (eva_cons ev_int (eva_cons ev_int eva_nil)))) (by first | rfl | assumption | decide +kernel | (simp only [List.map_append, List.map_cons, List.map_nil]) | (show PyData.list _ = PyData.list (List.map _ (_ ++ _ ++ _)); rw [List.map_append, List.map_append]; rfl) | (rw [List.map_map]; rfl))) (hs := (by walk_at "side"))) (fun hc H Z => ?_) (fun hc H Z => ?_)
  · have hn : ¬ sortI [pr x, pr y, pr z] = [1, 2, 3] := by simpa using hc
    refine w_ret Z q ev_bl ?_
    unfold isLie
    rw [if_neg (show ¬ sortI (prs [x, y, z]) = [1, 2, 3] from hn)]
  · have hn : sortI [pr x, pr y, pr z] = [1, 2, 3] := by simpa using hc
    refine W.nil ?_
    refine w_set (i := 2) sc_is_lie.nd rfl (Or.inl rfl) Z (ev_cmp hr.units (ev_bin (ev_bin (ev_ix (ev_nm 1 rfl) ev_int (hs := (by walk_at "side"))) (ev_ix (ev_nm 1 rfl) ev_int (hs := (by walk_at "side"))) (hs := (by walk_at "side"))) ev_int (hs := (by decide))) ev_int (hs := (by walk_at "side"))) ?_; intro σ H Z
    refine w_ret Z q (ev_cmp hr.units (ev_nm 2 rfl) (ev_call (c_has_odd_high (P := P) (w := w) (base := base) T) (hr.mono (by decide)) rfl T.A_has_odd_high.m T.A_has_odd_high.k T.A_has_odd_high.b (eva_cons (ev_nm 0 rfl) eva_nil)) (hs := (by walk_at "side"))) ?_
    unfold isLie
    rw [if_pos (show sortI (prs [x, y, z]) = [1, 2, 3] from hn)]
    rfl
theorem show_lie {t : List Int} (h3 : t.length = 3) (hs : small t) (k : Nat) (hk : k ≤ 1000) : (lieD t).showable = true ∧ (lieD t).hasDict = false ∧ (lieD t).depth ≤ 60 ∧ (lieD t).shown.length + k ≤ 100000 := by
  obtain ⟨w1, w2, w3, w4⟩ := show_tup (t := t) (fun n hn => by have := hs n hn; lia) (by lia)
  exact ⟨w1, w2, w3, by show (PyData.tuple (t.map .int)).shown.length + k ≤ 100000; lia⟩
theorem c_check_lie (T : Txt w K mg a) {t : List Int} {r : Res} (he : r = if isLie t = true then .ok .none else .er a.c_NoLie) (h3 : t.length = 3 := by first | rfl | assumption | lia) (hs : small t := by first | assumption | (exact lie_small (by assumption)) | (exact small_six (by assumption))) : CD P w K mg base 4 a.f_check_lie a.d_check_lie ["lie"] [lieD t] r := by
  refine T.A_check_lie.F.okC sc_check_lie rfl (fun cdv A outer s H0 σ Q E hr Z q => ?_)
  refine w_if Z (evt_not (evt_val (ev_call (c_is_lie (P := P) (w := w) (base := base) T) (hr.mono (by decide)) rfl T.A_is_lie.m T.A_is_lie.k T.A_is_lie.b (eva_cons (ev_nm 0 rfl) eva_nil)))) (fun hc H Z => ?_) (fun hc H Z => ?_)
  · have hl : isLie t = false := by simpa using hc
    rw [hl] at he
    refine w_raiseF raiseE rfl T.m_NoLie rfl T.x_NoLie hr.gd hr.units Z (ev_nm 0 rfl) q ?_ ?_ ?_ ?_ ?_
    · exact he
    · exact (show_lie h3 hs 16 (by decide)).1
    · exact (show_lie h3 hs 16 (by decide)).2.1
    · exact (show_lie h3 hs 16 (by decide)).2.2.1
    · exact (show_lie h3 hs 16 (by decide)).2.2.2
  · have hl : isLie t = true := by simpa using hc
    rw [hl] at he
    subst he
    refine W.nil ?_
    exact w_end Z q rfl rfl
theorem c_rolled_once (T : Txt w K mg a) {t : List Int} {c : Nat} {r : Res} (he : r = if isRoll c = true then .ok (lieD (roll1 c t)) else .er a.c_NoRoll) (h3 : t.length = 3 := by first | rfl | assumption | lia) (hc0 : c < 128 := by first | rfl | assumption | lia) : CD P w K mg base 2 a.f_rolled_once a.d_rolled_once ["lie", "roll"] [lieD t, chr c] r := by
  obtain ⟨x, y, z, rfl⟩ := three h3
  refine T.A_rolled_once.F.okC sc_rolled_once rfl (fun cdv A outer s H0 σ Q E hr Z q => ?_)
  refine w_set (i := 2) sc_rolled_once.nd rfl (Or.inl rfl) Z (ev_ix (ev_nm 0 rfl) ev_int (hs := (by walk_at "side"))) ?_; intro σ H Z
  refine w_set (i := 3) sc_rolled_once.nd rfl (Or.inl rfl) Z (ev_ix (ev_nm 0 rfl) ev_int (hs := (by walk_at "side"))) ?_; intro σ H Z
  refine w_set (i := 4) sc_rolled_once.nd rfl (Or.inl rfl) Z (ev_ix (ev_nm 0 rfl) ev_int (hs := (by walk_at "side"))) ?_; intro σ H Z
  refine w_if Z (evt_cmp hr.units (ev_nm 1 rfl) (ev_txt [110]) (hs := (by walk_at "side"))) (fun hc H Z => ?_) (fun hc H Z => ?_)
  · have e : c = 110 := by simpa using hc
    subst e
    subst he
    refine w_ret Z q (ev_tup (eva_cons (ev_call (c_across (P := P) (w := w) (base := base) T) (hr.mono (by decide)) rfl T.A_across.m T.A_across.k T.A_across.b (eva_cons (ev_nm 3 rfl) eva_nil)) (eva_cons (ev_nm 2 rfl) (eva_cons (ev_nm 4 rfl) eva_nil)))) ?_
    rfl
  refine W.nil ?_
  have n1 : ¬ c = 110 := by simpa using hc
  refine w_if Z (evt_cmp hr.units (ev_nm 1 rfl) (ev_txt [101]) (hs := (by walk_at "side"))) (fun hc H Z => ?_) (fun hc H Z => ?_)
  · have e : c = 101 := by simpa using hc
    subst e
    subst he
    refine w_ret Z q (ev_tup (eva_cons (ev_call (c_across (P := P) (w := w) (base := base) T) (hr.mono (by decide)) rfl T.A_across.m T.A_across.k T.A_across.b (eva_cons (ev_nm 4 rfl) eva_nil)) (eva_cons (ev_nm 3 rfl) (eva_cons (ev_nm 2 rfl) eva_nil)))) ?_
    rfl
  refine W.nil ?_
  have n2 : ¬ c = 101 := by simpa using hc
  refine w_if Z (evt_cmp hr.units (ev_nm 1 rfl) (ev_txt [115]) (hs := (by walk_at "side"))) (fun hc H Z => ?_) (fun hc H Z => ?_)
  · have e : c = 115 := by simpa using hc
    subst e
    subst he
    refine w_ret Z q (ev_tup (eva_cons (ev_nm 3 rfl) (eva_cons (ev_call (c_across (P := P) (w := w) (base := base) T) (hr.mono (by decide)) rfl T.A_across.m T.A_across.k T.A_across.b (eva_cons (ev_nm 2 rfl) eva_nil)) (eva_cons (ev_nm 4 rfl) eva_nil)))) ?_
    rfl
  refine W.nil ?_
  have n3 : ¬ c = 115 := by simpa using hc
  refine w_if Z (evt_cmp hr.units (ev_nm 1 rfl) (ev_txt [119]) (hs := (by walk_at "side"))) (fun hc H Z => ?_) (fun hc H Z => ?_)
  · have e : c = 119 := by simpa using hc
    subst e
    subst he
    refine w_ret Z q (ev_tup (eva_cons (ev_nm 4 rfl) (eva_cons (ev_nm 3 rfl) (eva_cons (ev_call (c_across (P := P) (w := w) (base := base) T) (hr.mono (by decide)) rfl T.A_across.m T.A_across.k T.A_across.b (eva_cons (ev_nm 2 rfl) eva_nil)) eva_nil)))) ?_
    rfl
  refine W.nil ?_
  have n4 : ¬ c = 119 := by simpa using hc
  have nr : isRoll c = false := by unfold isRoll; simp [n1, n2, n3, n4]
  rw [nr] at he
  refine w_raiseF raiseE rfl T.m_NoRoll rfl T.x_NoRoll hr.gd hr.units Z (ev_nm 1 rfl) q ?_ ?_ ?_ ?_ ?_
  · exact he
  all_goals have sc := show_txt (l := [c]) (fun n hn => by simp at hn; lia) (by simp) 11 (by decide)
  · exact sc.1
  · exact sc.2.1
  · exact sc.2.2.1
  · exact sc.2.2.2
theorem not_t {b : Bool} (h : (!b) = true) : b = false := by cases b <;> simp_all
theorem not_f {b : Bool} (h : (!b) = false) : b = true := by cases b <;> simp_all
theorem mem_sign (c : Nat) : decide ([c] ∈ [[46], [35]]) = isSign c := by
  unfold isSign
  by_cases h1 : c = 46
  · subst h1; rfl
  · by_cases h2 : c = 35
    · subst h2; rfl
    · simp [h1, h2]
theorem c_is_row (T : Txt w K mg a) {r : List Nat} {w0 : Nat} (hl : r.length ≤ 60 := by walk_at "side") : CD P w K mg base 1 a.f_is_row a.d_is_row ["row", "width"] [.str (tx r), .int (w0 : Nat)] (.ok (.bool (isRow w0 r))) := by
  refine T.A_is_row.F.okC sc_is_row rfl (fun cdv A outer s H0 σ Q E hr Z q => ?_)
  refine w_ret Z q (ev_and (ev_cmp hr.units (ev_callB rfl hr.units rfl T.n_len PySem.boot_len (eva_cons (ev_nm 0 rfl) eva_nil) (hs := (by lia))) (ev_nm 1 rfl) (hs := (by walk_at "side"))) (fun hc => (ev_one (ev_callB rfl hr.units rfl T.n_all My.boot_all (eva_cons (ev_comp0  ["row", "width"] s_is_row ["sign"] [none] rfl rfl rfl (evi_val (ev_nm 0 rfl)) (fun _ _ _ _ => pg_name (i := 0) (show (["sign"] : List Str).Nodup by decide +kernel) rfl (Or.inl rfl)) (fun _ _ _ _ z hz => (ev_cmp hr.units (ev_nm 0 rfl) (ev_tup (eva_cons (ev_glob (v := .str (tx [46])) rfl T.m_CELL ⟨_, rfl⟩ (fun H => Rep.str (tx [46]))) (eva_cons (ev_glob (v := .str (tx [35])) rfl T.m_GAP ⟨_, rfl⟩ (fun H => Rep.str (tx [35]))) eva_nil))) (hs := (by walk_at "side")) (hm := by with_unfolding_all rfl))) (hlen := (by lia))) eva_nil) (hs := (by walk_at "side")))))) ?_
  unfold isRow
  by_cases h : r.length = w0
  · have e : decide ((r.length : Int) = (w0 : Int)) = true := decide_eq_true (by lia)
    rw [e, decide_eq_true h, Bool.true_and]
    simp only [mem_sign]
    rfl
  · have e : decide ((r.length : Int) = (w0 : Int)) = false := decide_eq_false (by lia)
    rw [e, decide_eq_false h]
    rfl
theorem c_is_floor (T : Txt w K mg a) {fl : Fl} (hb : FlB fl := by first | assumption) : CD P w K mg base 2 a.f_is_floor a.d_is_floor ["floor"] [flD fl] (.ok (.bool (isFloor fl))) := by
  have b1 := hb.len
  refine T.A_is_floor.F.okC sc_is_floor rfl (fun cdv A outer s H0 σ Q E hr Z q => ?_)
  refine w_if Z (evt_not (evt_chain hr.units ev_int (ev_callB rfl hr.units rfl T.n_len PySem.boot_len (eva_cons (ev_nm 0 rfl) eva_nil) (hs := (by walk_at "side"))) (ev_glob (v := .int 8) rfl T.m_MOST ⟨_, rfl⟩ (fun H => Rep.int 8)))) (fun hc H Z => ?_) (fun hc H Z => ?_)
  · refine w_ret Z q ev_bl ?_
    unfold isFloor
    have hn : ¬ (1 ≤ fl.length ∧ fl.length ≤ 8) := by
      intro h
      rw [decide_eq_true (show (1 : Int) ≤ (fl.length : Int) by lia), decide_eq_true (show (fl.length : Int) ≤ 8 by lia)] at hc
      cases hc
    by_cases h1 : 1 ≤ fl.length
    · rw [decide_eq_true h1, decide_eq_false (fun h2 => hn ⟨h1, h2⟩)]; rfl
    · rw [decide_eq_false h1]; rfl
  · have hn : 1 ≤ fl.length ∧ fl.length ≤ 8 := by
      simp at hc
      lia
    have hw : (fl.getD 0 default).length ≤ 60 := by
      rw [List.getD_eq_getElem?_getD, List.getElem?_eq_getElem (by lia)]
      exact (hb.row _ (List.getElem_mem _)).1
    refine W.nil ?_
    refine w_set (i := 1) sc_is_floor.nd rfl (Or.inr rfl) Z (ev_callB rfl hr.units rfl T.n_len PySem.boot_len (eva_cons (ev_ix (ev_nm 0 rfl) ev_int (hs := ⟨by lia, by lia⟩)) eva_nil) (hs := (Nat.le_trans hw (by decide)))) ?_; intro σ H Z
    have Z : Sta K H0 H σ [some (.d (flD fl)), some (.d (.int (width fl : Nat)))] [] := Z
    have hw : width fl ≤ 60 := hw
    refine w_ret Z q (ev_and (ev_chain hr.units ev_int (ev_nm 1 rfl) (ev_glob (v := .int 8) rfl T.m_MOST ⟨_, rfl⟩ (fun H => Rep.int 8))) (fun hc => (ev_one (ev_callB rfl hr.units rfl T.n_all My.boot_all (eva_cons (ev_comp0  ["floor", "width"] s_is_floor ["row", "width"] [none, some 1] rfl rfl rfl (evi_val (ev_nm 0 rfl)) (fun _ _ _ _ => pg_name (i := 0) (show (["row", "width"] : List Str).Nodup by decide +kernel) rfl (Or.inl rfl)) (fun _ _ _ _ z hz => (ev_call (c_is_row (P := P) (w := w) (base := base) T (hb.row z hz).1) (hr.mono (by decide)) rfl T.A_is_row.m T.A_is_row.k T.A_is_row.b (eva_cons (ev_nm 0 rfl) (eva_cons (ev_nm 1 rfl) eva_nil)))) (hlen := (by lia))) eva_nil) (hs := (by walk_at "side")))))) ?_
    unfold isFloor
    rw [decide_eq_true hn.1, decide_eq_true hn.2, Bool.true_and, Bool.true_and]
    show PyData.bool _ = PyData.bool _
    congr 1
    have e1 : decide ((1 : Int) ≤ (width fl : Int)) = decide (1 ≤ width fl) := by congr 1; simp only [eq_iff_iff]; lia
    have e2 : decide ((width fl : Int) ≤ 8) = decide (width fl ≤ 8) := by congr 1; simp only [eq_iff_iff]; lia
    rw [e1, e2]
    all_goals (cases decide (1 ≤ width fl) && decide (width fl ≤ 8) <;> rfl)
theorem c_check_floor (T : Txt w K mg a) {fl : Fl} {r : Res} (he : r = if isFloor fl = true then .ok .none else .er a.c_NoFloor) (hb : FlB fl := by first | assumption) : CD P w K mg base 3 a.f_check_floor a.d_check_floor ["floor"] [flD fl] r := by
  refine T.A_check_floor.F.okC sc_check_floor rfl (fun cdv A outer s H0 σ Q E hr Z q => ?_)
  refine w_if Z (evt_not (evt_val (ev_call (c_is_floor (P := P) (w := w) (base := base) T) (hr.mono (by decide)) rfl T.A_is_floor.m T.A_is_floor.k T.A_is_floor.b (eva_cons (ev_nm 0 rfl) eva_nil)))) (fun hc H Z => ?_) (fun hc H Z => ?_)
  · have hl : isFloor fl = false := by simpa using hc
    rw [hl] at he
    refine w_raiseF raiseE rfl T.m_NoFloor rfl T.x_NoFloor hr.gd hr.units Z (ev_nm 0 rfl) q ?_ ?_ ?_ ?_ ?_
    · exact he
    · exact (hb.show 12 (by decide)).1
    · exact (hb.show 12 (by decide)).2.1
    · exact (hb.show 12 (by decide)).2.2.1
    · exact (hb.show 12 (by decide)).2.2.2
  · have hl : isFloor fl = true := by simpa using hc
    rw [hl] at he
    subst he
    refine W.nil ?_
    exact w_end Z q rfl rfl
theorem c_is_cell (T : Txt w K mg a) {fl : Fl} {p : Pl} (hb : FlB fl := by first | assumption) : CD P w K mg base 1 a.f_is_cell a.d_is_cell ["floor", "place"] [flD fl, plD p] (.ok (.bool (isCell fl p.1 p.2))) := by
  obtain ⟨r, c⟩ := p
  refine T.A_is_cell.F.okC sc_is_cell rfl (fun cdv A outer s H0 σ Q E hr Z q => ?_)
  refine w_set (i := 2) sc_is_cell.nd rfl (Or.inl rfl) Z (ev_ix (ev_nm 1 rfl) ev_int (hs := (by walk_at "side"))) ?_; intro σ H Z
  refine w_set (i := 3) sc_is_cell.nd rfl (Or.inl rfl) Z (ev_ix (ev_nm 1 rfl) ev_int (hs := (by walk_at "side"))) ?_; intro σ H Z
  refine w_if Z (evt_not (evt_chain hr.units ev_int (ev_nm 2 rfl) (ev_callB rfl hr.units rfl T.n_len PySem.boot_len (eva_cons (ev_nm 0 rfl) eva_nil) (hs := (by walk_at "side"))))) (fun hc H Z => ?_) (fun hc H Z => ?_)
  · have hn : ¬ (0 ≤ r ∧ r < (fl.length : Int)) := by
      rintro ⟨h1, h2⟩
      rw [decide_eq_true h1, decide_eq_true h2] at hc
      cases hc
    refine w_ret Z q ev_bl ?_
    show PyData.bool _ = PyData.bool _
    unfold isCell
    rw [if_neg hn]
  · have hn : 0 ≤ r ∧ r < (fl.length : Int) := by
      have hc := not_f hc
      rw [Bool.and_eq_true] at hc
      exact ⟨of_decide_eq_true hc.1, of_decide_eq_true hc.2⟩
    refine W.nil ?_
    have hm : fl.getD r.toNat default ∈ fl := by
      rw [List.getD_eq_getElem?_getD, List.getElem?_eq_getElem (by lia)]
      exact List.getElem_mem _
    have hl := (hb.row _ hm).1
    refine w_if Z (evt_not (evt_chain hr.units ev_int (ev_nm 3 rfl) (ev_callB rfl hr.units rfl T.n_len PySem.boot_len (eva_cons (ev_ix (ev_nm 0 rfl) (ev_nm 2 rfl) (hs := ⟨by lia, by lia⟩)) eva_nil) (hs := (Nat.le_trans hl (by decide)))))) (fun hc H Z => ?_) (fun hc H Z => ?_)
    · have hn2 : ¬ (0 ≤ c ∧ c < ((fl.getD r.toNat default).length : Int)) := by
        rintro ⟨h1, h2⟩
        rw [decide_eq_true h1, decide_eq_true h2] at hc
        cases hc
      refine w_ret Z q ev_bl ?_
      show PyData.bool _ = PyData.bool _
      unfold isCell
      rw [if_pos hn, if_neg hn2]
    · have hn2 : 0 ≤ c ∧ c < ((fl.getD r.toNat default).length : Int) := by
        have hc := not_f hc
        rw [Bool.and_eq_true] at hc
        exact ⟨of_decide_eq_true hc.1, of_decide_eq_true hc.2⟩
      refine W.nil ?_
      refine w_ret Z q (ev_cmp hr.units (ev_ix (ev_ix (ev_nm 0 rfl) (ev_nm 2 rfl) (hs := ⟨by lia, by lia⟩)) (ev_nm 3 rfl) (hs := ⟨hn2.1, hn2.2, Nat.le_trans hl (by decide)⟩)) (ev_glob (v := .str (tx [46])) rfl T.m_CELL ⟨_, rfl⟩ (fun H => Rep.str (tx [46]))) (hs := (by walk_at "side"))) ?_
      show PyData.bool _ = PyData.bool _
      unfold isCell signAt
      rw [if_pos hn, if_pos hn2]
      congr 1
      by_cases h : (fl.getD r.toNat default).getD c.toNat 0 = 46
      · rw [h]; rfl
      · rw [decide_eq_false (fun e => h (List.cons.inj e).1)]
        simp only [beq_eq_false_iff_ne.mpr h]
theorem c_check_place (T : Txt w K mg a) {fl : Fl} {p : Pl} {r : Res} (he : r = if isCell fl p.1 p.2 = true then .ok .none else .er a.c_NoCell) (hb : FlB fl) (hp : smallP p) : CD P w K mg base 2 a.f_check_place a.d_check_place ["floor", "place"] [flD fl, plD p] r := by
  refine T.A_check_place.F.okC sc_check_place rfl (fun cdv A outer s H0 σ Q E hr Z q => ?_)
  refine w_if Z (evt_not (evt_val (ev_call (c_is_cell (P := P) (w := w) (base := base) T hb) (hr.mono (by decide)) rfl T.A_is_cell.m T.A_is_cell.k T.A_is_cell.b (eva_cons (ev_nm 0 rfl) (eva_cons (ev_nm 1 rfl) eva_nil))))) (fun hc H Z => ?_) (fun hc H Z => ?_)
  · have hl : isCell fl p.1 p.2 = false := by simpa using hc
    rw [hl] at he
    refine w_raiseF raiseE rfl T.m_NoCell rfl T.x_NoCell hr.gd hr.units Z (ev_nm 1 rfl) q ?_ ?_ ?_ ?_ ?_
    · exact he
    · exact (Shw.pl hp).s
    · exact (Shw.pl hp).nd
    · exact Nat.le_trans (Shw.pl hp).p (by decide)
    · have := (Shw.pl hp).l
      show (plD p).shown.length + 24 ≤ 100000
      lia
  · have hl : isCell fl p.1 p.2 = true := by simpa using hc
    rw [hl] at he
    subst he
    refine W.nil ?_
    exact w_end Z q rfl rfl
theorem c_check_stand (T : Txt w K mg a) {fl : Fl} {s0 : Std} {r : Res} (he : r = if isCell fl s0.1.1 s0.1.2 = true then (if isLie s0.2 = true then .ok .none else .er a.c_NoLie) else .er a.c_NoCell) (hb : FlB fl) (hp : smallP s0.1) (h3 : s0.2.length = 3) (hs : small s0.2) : CD P w K mg base 5 a.f_check_stand a.d_check_stand ["floor", "stand"] [flD fl, stD s0] r := by
  refine T.A_check_stand.F.okC sc_check_stand rfl (fun cdv A outer s H0 σ Q E hr Z q => ?_)
  refine w_call (c_check_place (P := P) (w := w) (base := base) T rfl hb hp) (hr.mono (by decide)) rfl T.A_check_place.m T.A_check_place.k T.A_check_place.b passE Z (eva_cons (ev_nm 0 rfl) (eva_cons (ev_ix (ev_nm 1 rfl) ev_int (hs := (by walk_at "side"))) eva_nil)) ?_ ?_
  · intro d hd H Z
    have hlie : isCell fl s0.1.1 s0.1.2 = true := by
      cases h : isCell fl s0.1.1 s0.1.2 with
      | true => rfl
      | false => rw [h] at hd; cases hd
    rw [hlie] at he
    refine w_call (c_check_lie (P := P) (w := w) (base := base) T rfl h3 hs) (hr.mono (by decide)) rfl T.A_check_lie.m T.A_check_lie.k T.A_check_lie.b passE Z (eva_cons (ev_ix (ev_nm 1 rfl) ev_int (hs := (by walk_at "side"))) eva_nil) ?_ ?_
    · intro d hd H Z
      have hl2 : isLie s0.2 = true := by
        cases h : isLie s0.2 with
        | true => rfl
        | false => rw [h] at hd; cases hd
      rw [hl2] at he
      subst he
      exact w_end Z q rfl rfl
    · intro C hC H' sm
      have hl2 : isLie s0.2 = false := by
        cases h : isLie s0.2 with
        | false => rfl
        | true => rw [h] at hC; cases hC
      rw [hl2] at he hC
      cases hC
      subst he
      exact q H' sm
  · intro C hC H' sm
    have hlie : isCell fl s0.1.1 s0.1.2 = false := by
      cases h : isCell fl s0.1.1 s0.1.2 with
      | false => rfl
      | true => rw [h] at hC; cases hC
    rw [hlie] at he hC
    cases hC
    subst he
    exact q H' sm
theorem c_next_place (T : Txt w K mg a) {p : Pl} {c : Nat} (hc0 : isRoll c = true := by walk_at "side") : CD P w K mg base 1 a.f_next_place a.d_next_place ["place", "roll"] [plD p, chr c] (.ok (plD (goP p c))) := by
  refine T.A_next_place.F.okC sc_next_place rfl (fun cdv A outer s H0 σ Q E hr Z q => ?_)
  refine w_set (i := 2) sc_next_place.nd rfl (Or.inl rfl) Z (ev_ixC rfl T.m_STEPS T.q_STEPS (ev_nm 1 rfl) (steps_at hc0)) ?_; intro σ H Z
  refine w_ret Z q (ev_tup (eva_cons (ev_bin (ev_ix (ev_nm 0 rfl) ev_int (hs := (by walk_at "side"))) (ev_ix (ev_nm 2 rfl) ev_int (hs := (by walk_at "side"))) (hs := (by walk_at "side"))) (eva_cons (ev_bin (ev_ix (ev_nm 0 rfl) ev_int (hs := (by walk_at "side"))) (ev_ix (ev_nm 2 rfl) ev_int (hs := (by walk_at "side"))) (hs := (by walk_at "side"))) eva_nil))) ?_
  rfl
theorem c_next_stand (T : Txt w K mg a) {fl : Fl} {s0 : Std} {c : Nat} (hb : FlB fl := by first | assumption) (h3 : s0.2.length = 3 := by first | rfl | assumption | lia) : CD P w K mg base 3 a.f_next_stand a.d_next_stand ["floor", "stand", "roll"] [flD fl, stD s0, chr c] (.ok (nxD (nx fl s0 c))) := by
  refine T.A_next_stand.F.okC sc_next_stand rfl (fun cdv A outer s H0 σ Q E hr Z q => ?_)
  refine w_if Z (evt_notInC rfl T.m_STEPS T.q_STEPS (ev_nm 2 rfl)) (fun hc H Z => ?_) (fun hc H Z => ?_)
  · have hn : isRoll c = false := by
      have e := steps_is c
      change (!(cAt steps c).isSome) = true at hc
      rw [e] at hc
      simpa using hc
    refine w_ret Z q ev_non ?_
    unfold nx
    rw [if_neg (by rw [hn]; simp)]
    rfl
  · have hn : isRoll c = true := by
      have e := steps_is c
      change (!(cAt steps c).isSome) = false at hc
      rw [e] at hc
      simpa using hc
    refine W.nil ?_
    refine w_set (i := 3) sc_next_stand.nd rfl (Or.inl rfl) Z (ev_call (c_next_place (P := P) (w := w) (base := base) T hn) (hr.mono (by decide)) rfl T.A_next_place.m T.A_next_place.k T.A_next_place.b (eva_cons (ev_ix (ev_nm 1 rfl) ev_int (hs := (by walk_at "side"))) (eva_cons (ev_nm 2 rfl) eva_nil))) ?_; intro σ H Z
    refine w_if Z (evt_not (evt_val (ev_call (c_is_cell (P := P) (w := w) (base := base) T (p := goP s0.1 c) hb) (hr.mono (by decide)) rfl T.A_is_cell.m T.A_is_cell.k T.A_is_cell.b (eva_cons (ev_nm 0 rfl) (eva_cons (ev_nm 3 rfl) eva_nil))))) (fun hc H Z => ?_) (fun hc H Z => ?_)
    · have hl : isCell fl (goP s0.1 c).1 (goP s0.1 c).2 = false := by simpa using hc
      refine w_ret Z q ev_non ?_
      unfold nx
      rw [if_neg (by rw [hl]; simp)]
      rfl
    · have hl : isCell fl (goP s0.1 c).1 (goP s0.1 c).2 = true := by simpa using hc
      refine W.nil ?_
      have hc128 := roll_ascii hn
      refine w_ret Z q (ev_tup (eva_cons (ev_nm 3 rfl) (eva_cons (ev_call (c_rolled_once (P := P) (w := w) (base := base) T (r := .ok (lieD (roll1 c s0.2))) (by rw [hn]; rfl) h3 hc128) (hr.mono (by decide)) rfl T.A_rolled_once.m T.A_rolled_once.k T.A_rolled_once.b (eva_cons (ev_ix (ev_nm 1 rfl) ev_int (hs := (by walk_at "side"))) (eva_cons (ev_nm 2 rfl) eva_nil))) eva_nil))) ?_
      unfold nx
      rw [if_pos ⟨hn, hl⟩]
      rfl
theorem c_first_rows (T : Txt w K mg a) {fl : Fl} {s0 : Std} (hf : isFloor fl = true) (hb : FlB fl) (on : On fl s0) : CD P w K mg base 4 a.f_first_rows a.d_first_rows ["floor", "start"] [flD fl, stD s0] (.ok (.dict (encR (rowsOf fl s0)))) := by
  refine T.A_first_rows.F.okC sc_first_rows rfl (fun cdv A outer s H0 σ Q E hr Z q => ?_)
  refine w_ownD (i := 2) sc_first_rows.nd rfl (Or.inl rfl) Z (ev_dict1 hr.units (ev_nm 1 rfl) (ev_txt [])) ?_; intro a1 σ H Z
  refine w_set (i := 3) sc_first_rows.nd rfl (Or.inl rfl) Z (ev_lst (eva_cons (ev_nm 1 rfl) eva_nil)) ?_; intro σ H Z
  refine w_while (m := 2 * (1537 - 1) + 1) (fun mm env own => ∃ k ar v4 v5 v6 v7, own = [(ar, .d (encR (itR fl s0 k).1))] ∧ env = [some (.d (flD fl)), some (.d (stD s0)), some (.o 0), some (.d (.list (List.map stD (itR fl s0 k).2))), v4, v5, v6, v7] ∧ k + (if (itR fl s0 k).2.isEmpty then 0 else 1) ≤ (itR fl s0 k).1.length ∧ mm = 2 * (1537 - (itR fl s0 k).1.length) + (if (itR fl s0 k).2.isEmpty then 0 else 1)) ownE Z ?_ (fun m env own hp => ?_)
  · exact ⟨0, a1, none, none, none, none, rfl, rfl, Nat.le_refl _, rfl⟩
  · obtain ⟨k, ar, v4, v5, v6, v7, rfl, rfl, hkm, rfl⟩ := hp
    have L := itR_lvl fl s0 k
    have Lon := L.on on
    have hlen := few hf L.nd Lon
    have Lsub := L.sub
    have hnx : itR fl s0 (k + 1) = ring fl enswL vRow [] (itR fl s0 k).1 (itR fl s0 k).2 := rfl
    have L2' := itR_lvl fl s0 (k + 1)
    have hlen2 := few hf L2'.nd (L2'.on on)
    have rl := ring_len fl enswL vRow [] L.nd Lsub
    have hst := @rows_lvl fl s0 k
    rw [hnx] at hlen2
    generalize hm0 : (itR fl s0 k).1 = m at *
    generalize he0 : (itR fl s0 k).2 = e at *
    refine ⟨_, (evt_cmp hr.units (ev_callB rfl hr.units rfl T.n_len PySem.boot_len (eva_cons (ev_nm 3 rfl) eva_nil) (hs := (by walk_at "side"))) ev_int (hs := (by walk_at "side"))), fun σ H Z => ⟨fun hc => ?_, fun hc => ?_⟩⟩
    · have hne : e ≠ [] := fun h => by rw [h] at hc; cases hc
      have hemp : e.isEmpty = false := by cases e with | nil => exact absurd rfl hne | cons _ _ => rfl
      rw [hemp] at hkm ⊢
      refine w_own (i := 4) sc_first_rows.nd rfl (Or.inl rfl) Z (ev_lst eva_nil) ?_; intro a1 σ H Z
      refine w_for (i := 5) (fun j env own => ∃ ar ab v5 v6 v7, own = [(ar, .d (encR ((e.take j).foldl (addS fl enswL vRow []) (m, [])).1)), (ab, .l (List.map stD ((e.take j).foldl (addS fl enswL vRow []) (m, [])).2))] ∧ env = [some (.d (flD fl)), some (.d (stD s0)), some (.o 0), some (.d (.list (List.map stD e))), some (.o 1), v5, v6, v7]) ownE rfl sc_first_rows.nd rfl (Or.inl rfl) Z (evi_val (ev_nm 3 rfl)) ?_ (fun B hB j y env own σ H hj hp Z => ?_) (fun env own σ H hp Z => ?_)
      · exact ⟨ar, a1, _, _, _, rfl, rfl⟩
      · obtain ⟨ar, ab, v5, v6, v7, rfl, rfl⟩ := hp
        have hye := List.mem_of_getElem? hj
        have hyon := Lon y (Lsub y hye)
        have hy3 := hyon.len
        have et : (e.take (j + 1)).foldl (addS fl enswL vRow []) (m, []) = addS fl enswL vRow [] ((e.take j).foldl (addS fl enswL vRow []) (m, [])) y := by rw [List.take_add_one, hj, List.foldl_append]; rfl
        refine w_for (i := 6) (fun i env own => ∃ ar ab v6 v7, own = [(ar, .d (encR ((enswL.take i).foldl (add1 fl vRow [] y) ((e.take j).foldl (addS fl enswL vRow []) (m, []))).1)), (ab, .l (List.map stD ((enswL.take i).foldl (add1 fl vRow [] y) ((e.take j).foldl (addS fl enswL vRow []) (m, []))).2))] ∧ env = [some (.d (flD fl)), some (.d (stD s0)), some (.o 0), some (.d (.list (List.map stD e))), some (.o 1), some (.d (stD y)), v6, v7]) ownE rfl sc_first_rows.nd rfl (Or.inl rfl) Z (evi_val (ev_glob (v := .str (tx [101, 110, 115, 119])) rfl T.m_ROLLS ⟨_, rfl⟩ (fun H => Rep.str (tx [101, 110, 115, 119])))) ?_ (fun B2 hB2 j2 y2 env own σ H hj2 hp Z => ?_) (fun env own σ H hp Z => ?_)
        · exact ⟨ar, ab, _, _, rfl, rfl⟩
        · obtain ⟨ar, ab, v6, v7, rfl, rfl⟩ := hp
          obtain ⟨new, Dn⟩ := part_done (fl := fl) (R := enswL) (val := vRow) (dv := []) L.nd Lsub j hj j2
          have Don := Dn.on Lon (fun p hp => by
            rcases List.mem_append.mp hp with hp | hp
            · exact Lsub _ (List.mem_of_mem_take (mem_cands (s := p.1) (c := p.2).mp hp).1)
            · obtain ⟨c, _, rfl⟩ := List.mem_map.mp hp
              exact Lsub y hye)
          have zlen := few hf Dn.nd Don
          have zl2 : ((enswL.take j2).foldl (add1 fl vRow [] y) ((e.take j).foldl (addS fl enswL vRow []) (m, []))).2.length ≤ 1536 := by
            have e1 := Dn.eq
            rw [e1] at zlen ⊢
            simp only [List.length_append, List.length_map] at zlen ⊢
            lia
          have et2 : (enswL.take (j2 + 1)).foldl (add1 fl vRow [] y) ((e.take j).foldl (addS fl enswL vRow []) (m, [])) = add1 fl vRow [] y ((enswL.take j2).foldl (add1 fl vRow [] y) ((e.take j).foldl (addS fl enswL vRow []) (m, []))) y2 := by rw [List.take_add_one, hj2, List.foldl_append]; rfl
          have hys : ∃ b, lookP ((enswL.take j2).foldl (add1 fl vRow [] y) ((e.take j).foldl (addS fl enswL vRow []) (m, []))).1 y = some b := by
            refine Option.isSome_iff_exists.mp (lookP_isSome.mpr ?_)
            rw [Dn.eq]
            show y ∈ (m ++ new).map (·.1)
            rw [List.map_append]
            exact List.mem_append.mpr (.inl (Lsub y hye))
          rw [et2]
          generalize (enswL.take j2).foldl (add1 fl vRow [] y) ((e.take j).foldl (addS fl enswL vRow []) (m, [])) = z at Z zlen zl2 Dn hys ⊢
          obtain ⟨b, hyb⟩ := hys
          have hbl : b.length ≤ 2000 := by
            have := lookP_some hyb
            rw [Dn.eq] at this
            rcases List.mem_append.mp (show (y, b) ∈ m ++ new from this) with h | h
            · have := (L.best _ _ h).1
              lia
            · obtain ⟨hn, _⟩ := Dn.one _ _ h
              exact absurd (Lsub y hye) hn
          refine w_set (i := 7) sc_first_rows.nd rfl (Or.inl rfl) Z (ev_call (c_next_stand (P := P) (w := w) (base := base) T hb hy3) (hr.mono (by decide)) rfl T.A_next_stand.m T.A_next_stand.k T.A_next_stand.b (eva_cons (ev_nm 0 rfl) (eva_cons (ev_nm 5 rfl) (eva_cons (ev_nm 6 rfl) eva_nil)))) ?_; intro σ H Z
          refine w_if Z (EvW.t (evw_and (evt_cmp hr.units (ev_nm 7 rfl) ev_non (hs := (by walk_at "side"))) (fun hc => (evw_and1 (evt_cmp hr.units (ev_nm 7 rfl) (ev_nm 2 rfl) (hs := (some_nx hc)) (hm := by with_unfolding_all rfl)))))) (fun hc H Z => ?_) (fun hc H Z => ?_)
          · rw [Bool.and_eq_true] at hc
            obtain ⟨hc1, hc2⟩ := hc
            obtain ⟨t, ht⟩ := Option.isSome_iff_exists.mp (some_nx hc1)
            rw [ht, nxD_some] at Z hc2
            have hno : lookP z.1 t = none := by
              have hc2 : (!(dAt (encR z.1) (stD t)).isSome) = true := hc2
              rw [encR_at] at hc2
              cases h : lookP z.1 t with
              | none => rfl
              | some b => rw [h] at hc2; cases hc2
            have ea : add1 fl vRow [] y z y2 = (z.1 ++ [(t, b ++ [y2])], z.2 ++ [t]) := by
              unfold add1
              rw [ht, hyb]
              show (if (lookP z.1 t).isSome = true then z else _) = _
              rw [hno]
              rfl
            rw [ea]
            have hat : dAt (encR z.1) (stD y) = some (txD b) := by rw [encR_at, hyb]; rfl
            refine w_setD (i := 2) hr.units rfl (Or.inl rfl) rfl rfl Z (ev_bin (ev_ixd (ma := .any) hr.units (ev_nm 2 rfl) (ev_nm 5 rfl) (hs := hat)) (ev_nm 6 rfl) (hs := (by rw [List.length_singleton]; lia))) (ev_nm 7 rfl) (fun H Z => ?_) (hlen := (by rw [List.length_map]; lia))
            rw [encR_put hno] at Z
            refine w_append (i := 4) rfl (Or.inl rfl) rfl rfl Z (ev_nm 7 rfl) (fun H Z => ?_) (hlen := (by rw [List.length_map]; lia))
            refine W.nil (W.nil ⟨_, _, ⟨ar, ab, some (.d (chr y2)), some (.d (stD t)), ?_, rfl⟩, Z⟩)
            rw [List.map_append]
            rfl
          · have ea : add1 fl vRow [] y z y2 = z := by
              unfold add1
              cases hx : nx fl y y2 with
              | none => rfl
              | some t =>
                show (if (lookP z.1 t).isSome = true then z else _) = _
                rw [if_pos]
                rw [hx] at hc
                have hc : (true && !(dAt (encR z.1) (stD t)).isSome) = false := hc
                rw [encR_at] at hc
                cases h : lookP z.1 t with
                | none => rw [h] at hc; cases hc
                | some b => rfl
            rw [ea]
            exact W.nil (W.nil ⟨_, _, ⟨ar, ab, some (.d (chr y2)), _, rfl, rfl⟩, Z⟩)
        · obtain ⟨ar, ab, v6, v7, rfl, rfl⟩ := hp
          refine W.nil ⟨_, _, ⟨ar, ab, some (.d (stD y)), v6, v7, ?_, rfl⟩, Z⟩
          rw [et]
          rfl
      · obtain ⟨ar, ab, v5, v6, v7, rfl, rfl⟩ := hp
        rw [List.take_length] at Z
        have Z : Sta K H0 H σ _ ([(ar, .d (encR (ring fl enswL vRow [] m e).1))] ++ [(ab, .l (List.map stD (ring fl enswL vRow [] m e).2))]) := Z
        have Z := ((Z.forget 5).forget 6).forget 7
        have Z := Z.gives 4 rfl rfl
        refine w_set (i := 3) sc_first_rows.nd rfl (Or.inl rfl) Z (ev_nm 4 rfl) ?_; intro σ H Z
        rw [← hnx] at Z
        refine W.nil ⟨_, _, _, ?_, ⟨k + 1, ar, some (.f (.list (List.map stD (itR fl s0 (k + 1)).2))), none, none, none, rfl, rfl, ?_, rfl⟩, Z⟩
        · rw [hnx]
          cases hq : (ring fl enswL vRow [] m e).2.isEmpty with
          | true =>
            have := List.isEmpty_iff.mp hq
            rw [this, List.length_nil] at rl
            rw [rl]
            simp
          | false =>
            have : 0 < (ring fl enswL vRow [] m e).2.length := by
              cases h : (ring fl enswL vRow [] m e).2 with
              | nil => rw [h] at hq; cases hq
              | cons x r => simp
            simp
            lia
        · rw [hnx]
          cases hq : (ring fl enswL vRow [] m e).2.isEmpty with
          | true => simp at hkm ⊢; lia
          | false =>
            have : 0 < (ring fl enswL vRow [] m e).2.length := by
              cases h : (ring fl enswL vRow [] m e).2 with
              | nil => rw [h] at hq; cases hq
              | cons x r => simp
            simp at hkm ⊢
            lia
    · have he : e = [] := by
        cases e with
        | nil => rfl
        | cons x r => simp at hc
      refine w_retD (i := 2) Z q rfl (Or.inl rfl) rfl rfl ?_
      rw [hst he (by lia)]
/-- what floors and stands are refused with -/
noncomputable def standR (a : Adr) (fl : Fl) (s0 : Std) (r : Res) : Res := if isCell fl s0.1.1 s0.1.2 = true then (if isLie s0.2 = true then r else .er a.c_NoLie) else .er a.c_NoCell
noncomputable def floorR (a : Adr) (fl : Fl) (r : Res) : Res := if isFloor fl = true then r else .er a.c_NoFloor
noncomputable def placeR (a : Adr) (fl : Fl) (p : Pl) (r : Res) : Res := if isCell fl p.1 p.2 = true then r else .er a.c_NoCell
/-- what can be handed in as a stand -/
structure StB (s0 : Std) : Prop where
  p : smallP s0.1
  len : s0.2.length = 3
  sm : small s0.2
theorem floorR_ok {a : Adr} {fl : Fl} {r : Res} {d : PyData} (h : (if isFloor fl = true then Res.ok .none else .er a.c_NoFloor) = .ok d) : isFloor fl = true ∧ floorR a fl r = r := by
  cases e : isFloor fl with
  | true => exact ⟨rfl, by unfold floorR; rw [e]; rfl⟩
  | false => rw [e] at h; cases h
theorem floorR_er {a : Adr} {fl : Fl} {r : Res} {C : Addr} (h : (if isFloor fl = true then Res.ok .none else .er a.c_NoFloor) = .er C) : floorR a fl r = .er C := by
  cases e : isFloor fl with
  | true => rw [e] at h; cases h
  | false => rw [e] at h; unfold floorR; rw [e]; exact h
theorem standR_ok {a : Adr} {fl : Fl} {s0 : Std} {r : Res} {d : PyData} (h3 : s0.2.length = 3) (h : (if isCell fl s0.1.1 s0.1.2 = true then (if isLie s0.2 = true then Res.ok .none else .er a.c_NoLie) else .er a.c_NoCell) = .ok d) : On fl s0 ∧ standR a fl s0 r = r := by
  unfold standR
  cases e : isCell fl s0.1.1 s0.1.2 with
  | true =>
    rw [e] at h
    cases e2 : isLie s0.2 with
    | true => exact ⟨⟨e, h3, e2⟩, rfl⟩
    | false => rw [e2] at h; cases h
  | false => rw [e] at h; cases h
theorem standR_er {a : Adr} {fl : Fl} {s0 : Std} {r : Res} {C : Addr} (h : (if isCell fl s0.1.1 s0.1.2 = true then (if isLie s0.2 = true then Res.ok .none else .er a.c_NoLie) else .er a.c_NoCell) = .er C) : standR a fl s0 r = .er C := by
  unfold standR
  cases e : isCell fl s0.1.1 s0.1.2 with
  | true =>
    rw [e] at h
    cases e2 : isLie s0.2 with
    | true => rw [e2] at h; cases h
    | false => rw [e2] at h; exact h
  | false => rw [e] at h; exact h
theorem placeR_ok {a : Adr} {fl : Fl} {p : Pl} {r : Res} {d : PyData} (h : (if isCell fl p.1 p.2 = true then Res.ok .none else .er a.c_NoCell) = .ok d) : isCell fl p.1 p.2 = true ∧ placeR a fl p r = r := by
  cases e : isCell fl p.1 p.2 with
  | true => exact ⟨rfl, by unfold placeR; rw [e]; rfl⟩
  | false => rw [e] at h; cases h
theorem placeR_er {a : Adr} {fl : Fl} {p : Pl} {r : Res} {C : Addr} (h : (if isCell fl p.1 p.2 = true then Res.ok .none else .er a.c_NoCell) = .er C) : placeR a fl p r = .er C := by
  cases e : isCell fl p.1 p.2 with
  | true => rw [e] at h; cases h
  | false => rw [e] at h; unfold placeR; rw [e]; exact h
noncomputable def distOf (fl : Fl) (s0 : Std) : List (Std × Int) := (rowsOf fl s0).map fun p => (p.1, ((p.2.length : Nat) : Int))
noncomputable def comeR (a : Adr) (fl : Fl) (s0 : Std) : Res := floorR a fl (standR a fl s0 (.ok (.dict (encF (distOf fl s0)))))
theorem c_come_to (T : Txt w K mg a) {fl : Fl} {s0 : Std} {r : Res} (he : r = comeR a fl s0) (hb : FlB fl) (sb : StB s0) : CD P w K mg base 6 a.f_come_to a.d_come_to ["floor", "stand"] [flD fl, stD s0] r := by
  unfold comeR at he
  refine T.A_come_to.F.okC sc_come_to rfl (fun cdv A outer s H0 σ Q E hr Z q => ?_)
  refine w_call (c_check_floor (P := P) (w := w) (base := base) T rfl hb) (hr.mono (by decide)) rfl T.A_check_floor.m T.A_check_floor.k T.A_check_floor.b passE Z (eva_cons (ev_nm 0 rfl) eva_nil) ?_ ?_
  · intro d hd H Z
    obtain ⟨hf, e⟩ := floorR_ok (a := a) hd
    rw [e] at he
    refine w_call (c_check_stand (P := P) (w := w) (base := base) T rfl hb sb.p sb.len sb.sm) (hr.mono (by decide)) rfl T.A_check_stand.m T.A_check_stand.k T.A_check_stand.b passE Z (eva_cons (ev_nm 0 rfl) (eva_cons (ev_nm 1 rfl) eva_nil)) ?_ ?_
    · intro d hd H Z
      obtain ⟨on, e⟩ := standR_ok (a := a) sb.len hd
      rw [e] at he
      subst he
      have F := rows_found hf on
      have hlen := F.len
      refine w_set (i := 2) sc_come_to.nd rfl (Or.inl rfl) Z (ev_call (c_first_rows (P := P) (w := w) (base := base) T hf hb on) (hr.mono (by decide)) rfl T.A_first_rows.m T.A_first_rows.k T.A_first_rows.b (eva_cons (ev_nm 0 rfl) (eva_cons (ev_nm 1 rfl) eva_nil))) ?_; intro σ H Z
      refine w_ownD (i := 3) sc_come_to.nd rfl (Or.inl rfl) Z ev_dict0 ?_; intro a1 σ H Z
      refine w_for (i := 4) (fun j env own => ∃ a0 v4, own = [(a0, .d (encF (((rowsOf fl s0).take j).map fun p => (p.1, ((p.2.length : Nat) : Int)))))] ∧ env = [some (.d (flD fl)), some (.d (stD s0)), some (.d (.dict (encR (rowsOf fl s0)))), some (.o 0), v4]) ownE rfl sc_come_to.nd rfl (Or.inl rfl) Z (evi_val (ev_nm 2 rfl)) ?_ (fun B hB j y env own σ H hj hp Z => ?_) (fun env own σ H hp Z => ?_)
      · exact ⟨a1, none, rfl, rfl⟩
      · obtain ⟨a0, v4, rfl, rfl⟩ := hp
        have hmem := List.mem_of_getElem? hj
        obtain ⟨t, b⟩ := y
        have hat : dAt (encR (rowsOf fl s0)) (stD t) = some (txD b) := by rw [encR_at, lookP_of_mem F.nd hmem]; rfl
        have hbl : b.length ≤ 2000 := by
          obtain ⟨k, hk, hz⟩ := it_ends hf on
          rw [rows_lvl hz hk] at hmem
          have := ((itR_lvl fl s0 k).best t b hmem).1
          lia
        have hno : lookP (((rowsOf fl s0).take j).map fun p => (p.1, ((p.2.length : Nat) : Int))) t = none := by
          rw [lookP_none, List.map_map]
          intro hin
          have nd := F.nd
          rw [← List.take_append_drop j (rowsOf fl s0), List.map_append, List.nodup_append] at nd
          refine nd.2.2 t hin t ?_ rfl
          refine List.mem_map.mpr ⟨(t, b), ?_, rfl⟩
          have hjl : j < (rowsOf fl s0).length := (List.getElem?_eq_some_iff.mp hj).1
          rw [List.drop_eq_getElem_cons hjl]
          rw [(List.getElem?_eq_some_iff.mp hj).2]
          exact List.mem_cons_self
        refine w_setD (i := 3) hr.units rfl (Or.inl rfl) rfl rfl Z (ev_callB rfl hr.units rfl T.n_len PySem.boot_len (eva_cons (ev_ixd (ma := .any) hr.units (ev_nm 2 rfl) (ev_nm 4 rfl) (hs := hat)) eva_nil) (hs := (by lia))) (ev_nm 4 rfl) (fun H Z => ?_) (hlen := (by simp only [List.length_map, List.length_take]; lia))
        rw [encF_put hno] at Z
        refine W.nil ⟨_, _, ⟨a0, some (.d (stD t)), ?_, rfl⟩, Z⟩
        rw [List.take_add_one, hj, List.map_append]
        rfl
      · obtain ⟨a0, v4, rfl, rfl⟩ := hp
        rw [List.take_length] at Z
        refine w_retD (i := 3) Z q rfl (Or.inl rfl) rfl rfl ?_
        rfl
    · intro C hC H' sm
      rw [standR_er (a := a) hC] at he
      subst he
      exact q H' sm
  · intro C hC H' sm
    rw [floorR_er (a := a) hC] at he
    subst he
    exact q H' sm
noncomputable def endsR (a : Adr) (fl : Fl) (s0 : Std) (p : Pl) : Res := floorR a fl (standR a fl s0 (placeR a fl p (.ok (.list (List.map lieD (endsOf fl s0 p))))))
theorem c_ends (T : Txt w K mg a) {fl : Fl} {s0 : Std} {p : Pl} {r : Res} (he : r = endsR a fl s0 p) (hb : FlB fl) (sb : StB s0) (hp : smallP p) : CD P w K mg base 6 a.f_ends a.d_ends ["floor", "stand", "place"] [flD fl, stD s0, plD p] r := by
  unfold endsR at he
  refine T.A_ends.F.okC sc_ends rfl (fun cdv A outer s H0 σ Q E hr Z q => ?_)
  refine w_call (c_check_floor (P := P) (w := w) (base := base) T rfl hb) (hr.mono (by decide)) rfl T.A_check_floor.m T.A_check_floor.k T.A_check_floor.b passE Z (eva_cons (ev_nm 0 rfl) eva_nil) ?_ ?_
  · intro d hd H Z
    obtain ⟨hf, e⟩ := floorR_ok (a := a) hd
    rw [e] at he
    refine w_call (c_check_stand (P := P) (w := w) (base := base) T rfl hb sb.p sb.len sb.sm) (hr.mono (by decide)) rfl T.A_check_stand.m T.A_check_stand.k T.A_check_stand.b passE Z (eva_cons (ev_nm 0 rfl) (eva_cons (ev_nm 1 rfl) eva_nil)) ?_ ?_
    · intro d hd H Z
      obtain ⟨on, e⟩ := standR_ok (a := a) sb.len hd
      rw [e] at he
      refine w_call (c_check_place (P := P) (w := w) (base := base) T rfl hb hp) (hr.mono (by decide)) rfl T.A_check_place.m T.A_check_place.k T.A_check_place.b passE Z (eva_cons (ev_nm 0 rfl) (eva_cons (ev_nm 2 rfl) eva_nil)) ?_ ?_
      · intro d hd H Z
        obtain ⟨_, e⟩ := placeR_ok (a := a) hd
        rw [e] at he
        subst he
        have F := rows_found hf on
        have hlen := F.len
        have el := endsU_len hf on p
        refine w_ret Z q (ev_callB rfl hr.units rfl T.n_sorted PyProof.Rows.boot_sorted (eva_cons (ev_as (d' := .list (List.map lieD (endsU fl s0 p))) (ev_comp  ["floor", "stand", "place"] s_ends ["found", "place"] [none, some 2] rfl rfl rfl (evi_val (ev_call (c_first_rows (P := P) (w := w) (base := base) T hf hb on) (hr.mono (by decide)) rfl T.A_first_rows.m T.A_first_rows.k T.A_first_rows.b (eva_cons (ev_nm 0 rfl) (eva_cons (ev_nm 1 rfl) eva_nil)))) (fun _ _ _ _ => pg_name (i := 0) (show (["found", "place"] : List Str).Nodup by decide +kernel) rfl (Or.inl rfl)) (fun _ _ _ _ z hz => evif_one (evt_cmp hr.units (ev_ix (ev_nm 0 rfl) ev_int (hs := (by walk_at "side"))) (ev_nm 1 rfl) (hs := (by walk_at "side")))) (fun _ _ _ _ z hz hg => (ev_ix (ev_nm 0 rfl) ev_int (hs := (by walk_at "side")))) (hlen := (by lia))) (by unfold endsU; rw [List.map_map]; rfl)) eva_nil) (hs := ⟨by lia, fun t ht e => by have := (endsU_lie hf on p t ht).1; rw [e] at this; cases this⟩)) ?_
        rfl
      · intro C hC H' sm
        rw [placeR_er (a := a) hC] at he
        subst he
        exact q H' sm
    · intro C hC H' sm
      rw [standR_er (a := a) hC] at he
      subst he
      exact q H' sm
  · intro C hC H' sm
    rw [floorR_er (a := a) hC] at he
    subst he
    exact q H' sm
theorem c_tops_by_place (T : Txt w K mg a) {m0 : List (Std × Int)} (h3 : ∀ p ∈ m0, p.1.2.length = 3) (hl : m0.length ≤ 2000) : CD P w K mg base 1 a.f_tops_by_place a.d_tops_by_place ["stands"] [.dict (encF m0)] (.ok (.dict (encT (topsL (m0.map (·.1)))))) := by
  refine T.A_tops_by_place.F.okC sc_tops_by_place rfl (fun cdv A outer s H0 σ Q E hr Z q => ?_)
  refine w_ownD (i := 1) sc_tops_by_place.nd rfl (Or.inl rfl) Z ev_dict0 ?_; intro a1 σ H Z
  have Z := Z.toR (k := 0) (a := a1) rfl
  refine w_for (i := 2) (fun j env own => ∃ (a0 : Addr) (M : TM) (v2 v3 v4 : Option Sl), mOf M = topsL ((m0.take j).map (·.1)) ∧ M.length ≤ j ∧ (∀ x ∈ M, x.2.1.length ≤ j) ∧ own = ownM a0 M ∧ env = [some (.d (.dict (encF m0))), some (.o 0), v2, v3, v4]) ownE rfl sc_tops_by_place.nd rfl (Or.inl rfl) Z (evi_val (ev_nm 0 rfl)) ?_ (fun B hB j y env own σ H hj hp Z => ?_) (fun env own σ H hp Z => ?_)
  · exact ⟨a1, [], none, none, none, rfl, Nat.le_refl _, fun x hx => by (cases hx), rfl, rfl⟩
  · obtain ⟨a0, M, v2, v3, v4, hM, hMl, hMd, rfl, rfl⟩ := hp
    have hmem := List.mem_of_getElem? hj
    have hy3 := h3 y hmem
    have hjl : j < m0.length := (List.getElem?_eq_some_iff.mp hj).1
    have hnd : ((mOf M).map (·.1)).Nodup := by rw [hM]; exact (tops_ok _).nd
    have hgo : topsL ((m0.take (j + 1)).map (·.1)) = putTop (mOf M) y.1.1 (topOf y.1) := by
      rw [List.take_add_one, hj, List.map_append, hM]
      exact topsL_snoc _ _
    refine w_set (i := 3) sc_tops_by_place.nd rfl (Or.inl rfl) Z (ev_ix (ev_ix (ev_nm 2 rfl) ev_int (hs := (by walk_at "side"))) ev_int (hs := ⟨by decide, by lia⟩)) ?_; intro σ H Z
    refine w_setdef (i := 4) (j := 1) hr.units sc_tops_by_place.nd rfl (Or.inl rfl) rfl (Or.inl rfl) (Nat.le_of_ble_eq_true rfl) rfl rfl Z (ev_ix (ev_nm 2 rfl) ev_int (hs := (by walk_at "side"))) ?_ ?_ (hlen := (by unfold kvsM; rw [List.length_map]; lia))
    · intro p hp
      obtain ⟨n, ds, hn, hlk⟩ := rAt_some (p := y.1.1) hp
      have hdl : ds.length ≤ j := hMd _ (List.mem_of_getElem? hn)
      refine ⟨n + 1, _, ownM_get hn, fun σ H Z => ?_⟩
      have hslot : slotD (ownM a0 M) (some (some (Sl.o (n + 1)))) = some (.any, .list (List.map PyData.int ds)) := by
        show (match (ownM a0 M)[n + 1]? with | some (_, .l ds) => some (Md.any, PyData.list ds) | some (_, .d kvs) => some (Md.any, PyData.dict kvs) | some (_, .r _) => none | none => none) = _
        rw [ownM_get hn]
      refine w_if Z (evt_cmp hr.units (ev_nm 3 rfl) (ev_nm 4 hslot) (hs := (by walk_at "side")) (hm := by with_unfolding_all rfl)) (fun hc H Z => ?_) (fun hc H Z => ?_)
      · have ht : topOf y.1 ∉ ds := of_decide_eq_false (not_t hc)
        refine w_append (i := 4) rfl (Or.inl rfl) rfl (ownM_get hn) Z (ev_nm 3 rfl) (fun H Z => ?_) (hlen := (by rw [List.length_map]; lia))
        rw [ownM_set hn] at Z
        refine W.nil (W.nil ⟨_, _, ⟨a0, M.set n (y.1.1, ds ++ [topOf y.1], p), _, _, _, ?_, ?_, ?_, rfl, rfl⟩, Z⟩)
        · rw [hgo]; exact put_old hnd hn hlk ht
        · rw [List.length_set]; lia
        · intro x hx
          rcases List.mem_or_eq_of_mem_set hx with hx | rfl
          · have := hMd x hx; lia
          · show (ds ++ [topOf y.1]).length ≤ j + 1
            rw [List.length_append, List.length_singleton]
            have : ds.length ≤ j := hdl
            lia
      · have ht : topOf y.1 ∈ ds := of_decide_eq_true (not_f hc)
        refine W.nil (W.nil ⟨_, _, ⟨a0, M, _, _, _, ?_, by lia, fun x hx => by have := hMd x hx; lia, rfl, rfl⟩, Z⟩)
        rw [hgo]
        unfold putTop
        rw [hlk]
        show mOf M = if topOf y.1 ∈ ds then mOf M else _
        rw [if_pos ht]
    · intro hno l σ H Z
      have hlk := rAt_none (p := y.1.1) hno
      have Z : Sta K B H σ [some (.d (.dict (encF m0))), some (.o 0), some (.d (stD y.1)), some (.d (.int (topOf y.1))), some (.o (M.length + 1))] (ownM a0 (M ++ [(y.1.1, [], l)])) := by
        rw [← ownM_new, ← ownM_len a0 M]
        exact Z
      have hn : (M ++ [(y.1.1, ([] : List Int), l)])[M.length]? = some (y.1.1, [], l) := by simp
      have hslot : slotD (ownM a0 (M ++ [(y.1.1, [], l)])) (some (some (Sl.o (M.length + 1)))) = some (.any, .list (List.map PyData.int [])) := by
        show (match (ownM a0 (M ++ [(y.1.1, [], l)]))[M.length + 1]? with | some (_, .l ds) => some (Md.any, PyData.list ds) | some (_, .d kvs) => some (Md.any, PyData.dict kvs) | some (_, .r _) => none | none => none) = _
        rw [ownM_get hn]
      have hdl : ([] : List Int).length ≤ j := Nat.zero_le _
      refine w_if Z (evt_cmp hr.units (ev_nm 3 rfl) (ev_nm 4 hslot) (hs := (by walk_at "side")) (hm := by with_unfolding_all rfl)) (fun hc H Z => ?_) (fun hc H Z => ?_)
      · refine w_append (i := 4) rfl (Or.inl rfl) rfl (ownM_get hn) Z (ev_nm 3 rfl) (fun H Z => ?_) (hlen := (by rw [List.length_map]; lia))
        rw [ownM_set hn] at Z
        refine W.nil (W.nil ⟨_, _, ⟨a0, (M ++ [(y.1.1, [], l)]).set M.length (y.1.1, [] ++ [topOf y.1], l), _, _, _, ?_, ?_, ?_, rfl, rfl⟩, Z⟩)
        · rw [hgo]
          unfold putTop
          rw [hlk]
          unfold mOf
          rw [List.map_set, List.map_append]
          simp
        · rw [List.length_set, List.length_append, List.length_singleton]; lia
        · intro x hx
          rcases List.mem_or_eq_of_mem_set hx with hx | rfl
          · rcases List.mem_append.mp hx with hx | hx
            · have := hMd x hx; lia
            · rw [List.mem_singleton.mp hx]; exact Nat.zero_le _
          · show ([] ++ [topOf y.1]).length ≤ j + 1
            simp
      · simp at hc
  · obtain ⟨a0, M, v2, v3, v4, hM, hMl, hMd, rfl, rfl⟩ := hp
    rw [List.take_length] at hM
    refine w_retR (i := 1) Z q rfl (Or.inl rfl) rfl rfl (RD_of fun x hx => ?_) ?_
    · obtain ⟨n, hn⟩ := List.getElem?_of_mem hx
      exact ⟨n + 1, ownM_get hn⟩
    · rw [hM]
noncomputable def firmR (a : Adr) (fl : Fl) (s0 : Std) : Res := floorR a fl (standR a fl s0 (.ok (.list (List.map lieD (firmS fl s0)))))
theorem c_firm (T : Txt w K mg a) {fl : Fl} {s0 : Std} {r : Res} (he : r = firmR a fl s0) (hb : FlB fl) (sb : StB s0) : CD P w K mg base 7 a.f_firm a.d_firm ["floor", "stand"] [flD fl, stD s0] r := by
  refine T.A_firm.F.okC sc_firm rfl (fun cdv A outer s H0 σ Q E hr Z q => ?_)
  have bad : ∀ C : Addr, comeR a fl s0 = .er C → r = .er C → W (cxOf (CXE P w) P w K mg base ["floor", "stand", "tops"] "firm" (defScope s_firm) a.f_firm cdv A outer s H0 E) { nx := fun _ H' => Q .non H', rt := Q } ((defBody s_firm).drop 0) σ H0 := by
    intro C hC hr0
    subst hr0
    have G := c_come_to (P := P) (w := w) (base := base) T hC.symm hb sb
    have F := c_tops_by_place (P := P) (w := w) (base := base) T (m0 := []) (fun p hp => by (cases hp)) (by decide)
    refine w_setE F G (hr.mono (by decide)) (hr.mono (by decide)) rfl T.A_tops_by_place.m T.A_tops_by_place.k T.A_tops_by_place.b rfl T.A_come_to.m T.A_come_to.k T.A_come_to.b passE (i := 2) sc_firm.nd rfl (Or.inr rfl) Z (eva_cons (ev_nm 0 rfl) (eva_cons (ev_nm 1 rfl) eva_nil)) ?_
    exact q
  cases hf : isFloor fl with
  | false =>
    refine bad a.c_NoFloor ?_ ?_
    · unfold comeR floorR; rw [hf]; rfl
    · rw [he]; unfold firmR floorR; rw [hf]; rfl
  | true =>
    cases hc1 : isCell fl s0.1.1 s0.1.2 with
    | false =>
      refine bad a.c_NoCell ?_ ?_
      · unfold comeR floorR standR; rw [hf, hc1]; rfl
      · rw [he]; unfold firmR floorR standR; rw [hf, hc1]; rfl
    | true =>
      cases hl1 : isLie s0.2 with
      | false =>
        refine bad a.c_NoLie ?_ ?_
        · unfold comeR floorR standR; rw [hf, hc1, hl1]; rfl
        · rw [he]; unfold firmR floorR standR; rw [hf, hc1, hl1]; rfl
      | true =>
        have on : On fl s0 := ⟨hc1, sb.len, hl1⟩
        have F := rows_found hf on
        have hcome : Res.ok (.dict (encF (distOf fl s0))) = comeR a fl s0 := by unfold comeR floorR standR; rw [hf, hc1, hl1]; rfl
        have hr0 : r = .ok (.list (List.map lieD (firmS fl s0))) := by rw [he]; unfold firmR floorR standR; rw [hf, hc1, hl1]; rfl
        subst hr0
        have hd3 : ∀ p ∈ distOf fl s0, p.1.2.length = 3 := fun p hp => by
          obtain ⟨x, hx, rfl⟩ := List.mem_map.mp hp
          exact (F.on x.1 (List.mem_map.mpr ⟨x, hx, rfl⟩)).len
        have hdl : (distOf fl s0).length ≤ 2000 := by unfold distOf; rw [List.length_map]; have := F.len; lia
        refine w_set (i := 2) sc_firm.nd rfl (Or.inr rfl) Z (ev_call (c_tops_by_place (P := P) (w := w) (base := base) T hd3 hdl) (hr.mono (by decide)) rfl T.A_tops_by_place.m T.A_tops_by_place.k T.A_tops_by_place.b (eva_cons (ev_call (c_come_to (P := P) (w := w) (base := base) T hcome hb sb) (hr.mono (by decide)) rfl T.A_come_to.m T.A_come_to.k T.A_come_to.b (eva_cons (ev_nm 0 rfl) (eva_cons (ev_nm 1 rfl) eva_nil))) eva_nil)) ?_; intro σ H Z
        have ek : (distOf fl s0).map (·.1) = (rowsOf fl s0).map (·.1) := by unfold distOf; rw [List.map_map]; rfl
        rw [ek] at Z
        have Z : Sta K H0 H σ [some (.d (flD fl)), some (.d (stD s0)), some (.d (.dict (encT (topsAt fl s0))))] [] := Z
        have tnd : ((topsAt fl s0).map (·.1)).Nodup := (tops_ok _).nd
        have tl := tops_len fl s0 hf on
        have ff := firm_few hf on
        have hat : ∀ z ∈ topsAt fl s0, dAt (encT (topsAt fl s0)) (plD z.1) = some (.list (List.map PyData.int z.2)) := fun z hz => by rw [encT_at, lookP_of_mem tnd (b := z.2) hz]; rfl
        refine w_ret Z q (ev_callB rfl hr.units rfl T.n_sorted PyProof.Rows.boot_sorted (eva_cons (ev_as (d' := .list (List.map lieD (firmL fl s0))) (ev_comp  ["floor", "stand", "tops"] s_firm ["place", "tops"] [none, some 2] rfl rfl rfl (evi_val (ev_nm 2 rfl)) (fun _ _ _ _ => pg_name (i := 0) (show (["place", "tops"] : List Str).Nodup by decide +kernel) rfl (Or.inl rfl)) (fun _ _ _ _ z hz => evif_one (evt_cmp hr.units (ev_callB rfl hr.units rfl T.n_len PySem.boot_len (eva_cons (ev_ixd (ma := .any) hr.units (ev_nm 1 rfl) (ev_nm 0 rfl) (hs := (hat z hz))) eva_nil) (hs := (by walk_at "side"))) ev_int (hs := (by walk_at "side")))) (fun _ _ _ _ z hz hg => (ev_nm 0 rfl)) (hlen := (by lia))) (by unfold firmL firmU; rw [List.map_map, List.map_map]; rfl)) eva_nil) (hs := ⟨by unfold firmL; rw [List.length_map]; exact ff, fun t ht e => by obtain ⟨p, _, rfl⟩ := List.mem_map.mp ht; cases e⟩)) ?_
        rfl
end
end D06


set_option Elab.async false
set_option linter.all false
set_option maxRecDepth 100000
set_option maxHeartbeats 4000000
namespace D06
open PySem L2 Die
section
variable {P : Program} {w : World} {K : PySem.W.Frag} {mg : Str → Option Value} {base : Heap} {a : Adr}
theorem c_law_cell_at (T : Txt w K mg a) {ns : List Int} {k : Int} (h0 : 0 ≤ k := by walk_at "side") : CD P w K mg base 1 a.f__law_cell_at a.d__law_cell_at ["script", "k"] [.list (List.map PyData.int ns), .int k] (.ok (.int (ns.getD k.toNat 0))) := by
  refine T.A__law_cell_at.F.okC sc_law_cell_at rfl (fun cdv A outer s H0 σ Q E hr Z q => ?_)
  refine w_if Z (evt_cmp hr.units (ev_nm 1 rfl) (ev_callB rfl hr.units rfl T.n_len PySem.boot_len (eva_cons (ev_nm 0 rfl) eva_nil) (hs := (by walk_at "side"))) (hs := (by walk_at "side"))) (fun hc H Z => ?_) (fun hc H Z => ?_)
  · have hlt : k < (ns.length : Int) := of_decide_eq_true hc
    refine w_ret Z q (ev_ix (ev_nm 0 rfl) (ev_nm 1 rfl) (hs := ⟨h0, hlt⟩)) ?_
    rfl
  · have hge : ¬ k < (ns.length : Int) := of_decide_eq_false hc
    refine W.nil ?_
    refine w_ret Z q ev_int ?_
    have e : ns[k.toNat]? = none := List.getElem?_eq_none_iff.mpr (by lia)
    simp [List.getD, e]
theorem c_law_whole (T : Txt w K mg a) {n : Int} : CD P w K mg base 1 a.f__law_whole a.d__law_whole ["x"] [.int n] (.ok (.bool true)) := by
  refine T.A__law_whole.F.okC sc_law_whole rfl (fun cdv A outer s H0 σ Q E hr Z q => ?_)
  refine w_ret Z q (ev_and (ev_isi rfl T.n_isinstance rfl T.n_int My.boot_int (ev_nm 0 rfl) (by first | rfl | kernel_rfl)) (fun hc => (ev_one (ev_not (ev_isi rfl T.n_isinstance rfl T.n_bool My.boot_bool (ev_nm 0 rfl) (by first | rfl | kernel_rfl)))))) ?_
  rfl
theorem c_law_mix (T : Txt w K mg a) {c k : Int} : CD P w K mg base 1 a.f__law_mix a.d__law_mix ["cell", "k"] [.int c, .int k] (.ok (.int (lmix c k))) := by
  refine T.A__law_mix.F.okC sc_law_mix rfl (fun cdv A outer s H0 σ Q E hr Z q => ?_)
  refine w_set (i := 2) sc_law_mix.nd rfl (Or.inl rfl) Z (ev_bin (ev_bin (ev_bin (ev_bin (ev_nm 0 rfl) ev_int (hs := (Or.inr ⟨by decide, by decide⟩))) (ev_bin ev_int (ev_nm 1 rfl) (hs := (Or.inl ⟨by decide, by decide⟩))) (hs := (by walk_at "side"))) ev_int (hs := (by walk_at "side"))) ev_int (hs := (by decide))) ?_; intro σ H Z
  generalize hm1 : (c * 69621 + 7001 * k + 3) % 2147483629 = m1 at Z
  have b1 : 0 ≤ m1 ∧ m1 < 2147483629 := by lia
  refine w_set (i := 2) sc_law_mix.nd rfl (Or.inl rfl) Z (ev_bin (ev_bin (ev_bin (ev_bin (ev_nm 2 rfl) (ev_nm 2 rfl) (hs := (by first | (exact Or.inl ⟨by lia, by lia⟩) | (exact Or.inr ⟨by lia, by lia⟩)))) (ev_bin ev_int (ev_nm 2 rfl) (hs := (Or.inl ⟨by decide, by decide⟩))) (hs := (by walk_at "side"))) (ev_nm 1 rfl) (hs := (by walk_at "side"))) ev_int (hs := (by decide))) ?_; intro σ H Z
  generalize hm2 : (m1 * m1 + 39373 * m1 + k) % 2147483647 = m2 at Z
  have b2 : 0 ≤ m2 ∧ m2 < 2147483647 := by rw [← hm2]; exact ⟨Int.emod_nonneg _ (by decide), Int.emod_lt_of_pos _ (by decide)⟩
  refine w_ret Z q (ev_bin (ev_bin (ev_bin (ev_bin (ev_nm 2 rfl) (ev_nm 2 rfl) (hs := (by first | (exact Or.inl ⟨by lia, by lia⟩) | (exact Or.inr ⟨by lia, by lia⟩)))) (ev_bin ev_int (ev_nm 2 rfl) (hs := (Or.inl ⟨by decide, by decide⟩))) (hs := (by walk_at "side"))) (ev_bin ev_int (ev_nm 1 rfl) (hs := (Or.inl ⟨by decide, by decide⟩))) (hs := (by walk_at "side"))) ev_int (hs := (by decide))) ?_
  subst hm2 hm1
  rfl
theorem c_law_pairs (T : Txt w K mg a) {t : List Int} (h6 : inSix t := by first | assumption | (exact lie_six (by assumption))) (h3 : t.length = 3 := by first | rfl | assumption | lia) : CD P w K mg base 1 a.f__law_pairs a.d__law_pairs ["lie"] [lieD t] (.ok (.list (List.map PyData.int (t.map lp)))) := by
  refine T.A__law_pairs.F.okC sc_law_pairs rfl (fun cdv A outer s H0 σ Q E hr Z q => ?_)
  refine w_ret Z q (ev_comp0  ["lie"] s_law_pairs ["number"] [none] rfl rfl rfl (evi_val (ev_nm 0 rfl)) (fun _ _ _ _ => pg_name (i := 0) (show (["number"] : List Str).Nodup by decide +kernel) rfl (Or.inl rfl)) (fun _ _ _ _ z hz => (ev_ix (ev_as (d' := .list (List.map PyData.int [0, 1, 2, 3, 3, 2, 1])) (ev_lst (eva_cons ev_int (eva_cons ev_int (eva_cons ev_int (eva_cons ev_int (eva_cons ev_int (eva_cons ev_int (eva_cons ev_int eva_nil)))))))) (by first | rfl | assumption | decide +kernel | (simp only [List.map_append, List.map_cons, List.map_nil]) | (show PyData.list _ = PyData.list (List.map _ (_ ++ _ ++ _)); rw [List.map_append, List.map_append]; rfl) | (rw [List.map_map]; rfl))) (ev_nm 0 rfl) (hs := (by have := h6 z hz; exact ⟨by lia, by show z < 7; lia⟩)))) (hlen := (by lia))) ?_
  rw [List.map_map]
  rfl
theorem c_law_odd (T : Txt w K mg a) {ns : List Int} (hl : ns.length ≤ 60 := by walk_at "side") : CD P w K mg base 1 a.f__law_odd a.d__law_odd ["row"] [.list (List.map PyData.int ns)] (.ok (.int (lodd ns))) := by
  refine T.A__law_odd.F.okC sc_law_odd rfl (fun cdv A outer s H0 σ Q E hr Z q => ?_)
  refine w_set (i := 1) sc_law_odd.nd rfl (Or.inl rfl) Z ev_int ?_; intro σ H Z
  refine w_for (i := 2) (fun j env own => own = [] ∧ ∃ v, env = [some (.d (.list (List.map PyData.int ns))), some (.d (.int (inv ns j))), v]) ownE rfl sc_law_odd.nd rfl (Or.inr rfl) Z (evi_range1 rfl T.n_range (ev_callB rfl hr.units rfl T.n_len PySem.boot_len (eva_cons (ev_nm 0 rfl) eva_nil) (hs := (by walk_at "side"))) (by lia)) ?_ (fun B hB j y env own σ H hj hp Z => ?_) (fun env own σ H hp Z => ?_)
  · exact ⟨rfl, none, rfl⟩
  · obtain ⟨rfl, v, rfl⟩ := hp
    obtain ⟨rfl, hjl⟩ := range_at hj
    rw [Int.toNat_natCast] at hjl
    refine w_set (i := 1) sc_law_odd.nd rfl (Or.inl rfl) Z (ev_bin (ev_nm 1 rfl) (ev_callB rfl hr.units rfl T.n_len PySem.boot_len (eva_cons (ev_comp  ["row", "count", "k"] s_law_odd ["one", "row", "k"] [none, some 0, some 2] rfl rfl rfl (evi_val (ev_sl (ev_nm 0 rfl) evo_none (evo_some (ev_nm 2 rfl)) (hs := (Int.natCast_nonneg _)))) (fun _ _ _ _ => pg_name (i := 0) (show (["one", "row", "k"] : List Str).Nodup by decide +kernel) rfl (Or.inl rfl)) (fun _ _ _ _ z hz => evif_one (evt_cmp hr.units (ev_nm 0 rfl) (ev_ix (ev_nm 1 rfl) (ev_nm 2 rfl) (hs := ⟨Int.natCast_nonneg _, by lia⟩)) (hs := (by walk_at "side")))) (fun _ _ _ _ z hz hg => (ev_nm 0 rfl)) (hlen := (by rw [List.length_take]; lia))) eva_nil) (hs := (by walk_at "side"))) (hs := (by walk_at "side"))) ?_; intro σ H Z
    refine W.nil ⟨_, _, ⟨rfl, some (.d (natD y)), ?_⟩, Z⟩
    rw [Int.toNat_natCast]
    rfl
  · obtain ⟨rfl, v, rfl⟩ := hp
    have e : (List.range ((ns.length : Nat) : Int).toNat).length = ns.length := by simp
    rw [e] at Z
    refine w_ret Z q (ev_bin (ev_nm 1 rfl) ev_int (hs := (by decide))) ?_
    rfl
theorem c_law_is_lie (T : Txt w K mg a) {t : List Int} (h3 : t.length = 3 := by first | rfl | assumption | lia) : CD P w K mg base 2 a.f__law_is_lie a.d__law_is_lie ["lie"] [lieD t] (.ok (.bool (lawIsLie t))) := by
  refine T.A__law_is_lie.F.okC sc_law_is_lie rfl (fun cdv A outer s H0 σ Q E hr Z q => ?_)
  refine w_if Z (EvW.t (evw_or (evt_cmp hr.units (ev_callB rfl hr.units rfl T.n_len PySem.boot_len (eva_cons (ev_comp  ["lie", "great"] s_law_is_lie ["number"] [none] rfl rfl rfl (evi_val (ev_nm 0 rfl)) (fun _ _ _ _ => pg_name (i := 0) (show (["number"] : List Str).Nodup by decide +kernel) rfl (Or.inl rfl)) (fun _ _ _ _ z hz => evif_one (evt_not (evt_chain hr.units ev_int (ev_nm 0 rfl) ev_int))) (fun _ _ _ _ z hz hg => (ev_nm 0 rfl)) (hlen := (by lia))) eva_nil) (hs := (by walk_at "side"))) ev_int (hs := (by walk_at "side"))) (fun hc => (evw_or1 (evt_cmp hr.units (ev_callB rfl hr.units rfl T.n_sorted PyProof.Rows.boot_sorted (eva_cons (ev_call (c_law_pairs (P := P) (w := w) (base := base) T (by first | assumption | exact inSix_of (of_decide_eq_false hc)) h3) (hr.mono (by decide)) rfl T.A__law_pairs.m T.A__law_pairs.k T.A__law_pairs.b (eva_cons (ev_nm 0 rfl) eva_nil)) eva_nil) (hs := (by rw [List.length_map]; lia))) (ev_as (d' := .list (List.map PyData.int [1, 2, 3])) (ev_lst (eva_cons ev_int (eva_cons ev_int (eva_cons ev_int eva_nil)))) (by first | rfl | assumption | decide +kernel | (simp only [List.map_append, List.map_cons, List.map_nil]) | (show PyData.list _ = PyData.list (List.map _ (_ ++ _ ++ _)); rw [List.map_append, List.map_append]; rfl) | (rw [List.map_map]; rfl))) (hs := (by walk_at "side"))))))) (fun hc H Z => ?_) (fun hc H Z => ?_)
  · refine w_ret Z q ev_bl ?_
    have hc2 : 0 < ((outSix t).length : Int) ∨ ¬ sortI (t.map lp) = [1, 2, 3] := by simpa [outSix] using hc
    unfold lawIsLie
    by_cases h1 : 0 < ((outSix t).length : Int)
    · rw [if_pos h1]
    · rw [if_neg h1, if_neg (hc2.resolve_left h1)]
  · have hc2 : ¬ 0 < ((outSix t).length : Int) ∧ sortI (t.map lp) = [1, 2, 3] := by
      rw [Bool.or_eq_false_iff] at hc
      exact ⟨of_decide_eq_false hc.1, by simpa using hc.2⟩
    have h6 : inSix t := inSix_of hc2.1
    refine W.nil ?_
    refine w_set (i := 1) sc_law_is_lie.nd rfl (Or.inl rfl) Z (ev_callB rfl hr.units rfl T.n_len PySem.boot_len (eva_cons (ev_comp  ["lie", "great"] s_law_is_lie ["number"] [none] rfl rfl rfl (evi_val (ev_nm 0 rfl)) (fun _ _ _ _ => pg_name (i := 0) (show (["number"] : List Str).Nodup by decide +kernel) rfl (Or.inl rfl)) (fun _ _ _ _ z hz => evif_one (evt_cmp hr.units (ev_nm 0 rfl) ev_int (hs := (by walk_at "side")))) (fun _ _ _ _ z hz hg => (ev_nm 0 rfl)) (hlen := (by lia))) eva_nil) (hs := (by walk_at "side"))) ?_; intro σ H Z
    refine w_ret Z q (ev_cmp hr.units (ev_bin (ev_bin (ev_nm 1 rfl) (ev_call (c_law_odd (P := P) (w := w) (base := base) T (by rw [List.length_map]; lia)) (hr.mono (by decide)) rfl T.A__law_odd.m T.A__law_odd.k T.A__law_odd.b (eva_cons (ev_call (c_law_pairs (P := P) (w := w) (base := base) T (by first | assumption | exact inSix_of (of_decide_eq_false hc)) h3) (hr.mono (by decide)) rfl T.A__law_pairs.m T.A__law_pairs.k T.A__law_pairs.b (eva_cons (ev_nm 0 rfl) eva_nil)) eva_nil)) (hs := (by walk_at "side"))) ev_int (hs := (by decide))) ev_int (hs := (by walk_at "side"))) ?_
    unfold lawIsLie
    rw [if_neg hc2.1, if_pos hc2.2]
theorem ext_allN {p : List Int → Bool} {x : Int} {j : Nat} {pre : List (List Int)} : (pre ++ allN p x j).map lieD ++ (((List.range (7 - 1 : Int).toNat).filter fun z : Nat => p [x, 1 + (j : Int), 1 + (z : Int)]).map fun z : Nat => PyData.tuple [.int x, .int (1 + (j : Int)), .int (1 + (z : Int))]) = (pre ++ allN p x (j + 1)).map lieD := by
  rw [allN_succ, ← List.append_assoc, List.map_append (l₁ := pre ++ allN p x j)]
  congr 1
  unfold allE
  rw [List.filter_map, List.map_map]
  rfl
theorem c_law_lies (T : Txt w K mg a) : CD P w K mg base 3 a.f__law_lies a.d__law_lies [] [] (.ok (.list (List.map lieD Die.lies))) := by
  refine T.A__law_lies.F.okC sc_law_lies rfl (fun cdv A outer s H0 σ Q E hr Z q => ?_)
  refine w_own (i := 0) sc_law_lies.nd rfl (Or.inl rfl) Z (ev_lst eva_nil) ?_; intro a1 σ H Z
  refine w_for (i := 1) (fun i env own => ∃ a0 v1 v2, own = [(a0, .l ((allT lawIsLie i).map lieD))] ∧ env = [some (.o 0), v1, v2]) ownE rfl sc_law_lies.nd rfl (Or.inr rfl) Z (evi_range2 rfl T.n_range ev_int ev_int (by walk_at "side")) ?_ (fun B hB j y env own σ H hj hp Z => ?_) (fun env own σ H hp Z => ?_)
  · exact ⟨a1, none, none, rfl, rfl⟩
  · obtain ⟨a0, v1, v2, rfl, rfl⟩ := hp
    obtain ⟨rfl, hj6⟩ := range_at hj
    refine w_for (i := 2) (fun i env own => ∃ a0 v2, own = [(a0, .l ((allT lawIsLie y ++ allN lawIsLie (1 + (y : Int)) i).map lieD))] ∧ env = [some (.o 0), some (.d (fromD 1 y)), v2]) ownE rfl sc_law_lies.nd rfl (Or.inr rfl) Z (evi_range2 rfl T.n_range ev_int ev_int (by walk_at "side")) ?_ (fun B2 hB2 j2 y2 env own σ H hj2 hp Z => ?_) (fun env own σ H hp Z => ?_)
    · exact ⟨a0, _, by rw [show allN lawIsLie (1 + (y : Int)) 0 = [] from rfl, List.append_nil], rfl⟩
    · obtain ⟨a0, v2, rfl, rfl⟩ := hp
      obtain ⟨rfl, hj7⟩ := range_at hj2
      have hj6' : y < 6 := hj6
      have hj7' : y2 < 6 := hj7
      have l1 := len_allT lawIsLie y
      have l2 := len_allN lawIsLie (1 + (y : Int)) y2
      refine w_extend (i := 0) rfl (Or.inl rfl) rfl rfl Z (ev_comp  ["found", "top", "north"] s_law_lies ["east", "top", "north"] [none, some 1, some 2] rfl rfl rfl (evi_range2 rfl T.n_range ev_int ev_int (by walk_at "side")) (fun _ _ _ _ => pg_name (i := 0) (show (["east", "top", "north"] : List Str).Nodup by decide +kernel) rfl (Or.inl rfl)) (fun _ _ _ _ z hz => evif_one (evt_val (ev_call (c_law_is_lie (P := P) (w := w) (base := base) T (t := [1 + (y : Int), 1 + (y2 : Int), 1 + (z : Int)]) rfl) (hr.mono (by decide)) rfl T.A__law_is_lie.m T.A__law_is_lie.k T.A__law_is_lie.b (eva_cons (ev_tup (eva_cons (ev_nm 1 rfl) (eva_cons (ev_nm 2 rfl) (eva_cons (ev_nm 0 rfl) eva_nil)))) eva_nil)))) (fun _ _ _ _ z hz hg => (ev_tup (eva_cons (ev_nm 1 rfl) (eva_cons (ev_nm 2 rfl) (eva_cons (ev_nm 0 rfl) eva_nil))))) (hlen := (by rw [List.length_range]; decide))) (fun H Z => ?_) (hlen := (by simp only [List.length_map, List.length_append]; have := List.length_filter_le (fun z : Nat => lawIsLie [1 + (y : Int), 1 + (y2 : Int), 1 + (z : Int)]) (List.range (7 - 1 : Int).toNat); have e6 : (List.range (7 - 1 : Int).toNat).length = 6 := (by decide); lia))
      refine W.nil ⟨_, _, ⟨a0, some (.d (fromD 1 y2)), ?_, rfl⟩, Z⟩
      rw [← ext_allN]
      rfl
    · obtain ⟨a0, v2, rfl, rfl⟩ := hp
      refine W.nil ⟨_, _, ⟨a0, some (.d (fromD 1 y)), v2, ?_, rfl⟩, Z⟩
      rw [allT_succ]
      rfl
  · obtain ⟨a0, v1, v2, rfl, rfl⟩ := hp
    refine w_retO (i := 0) Z q rfl (Or.inl rfl) rfl rfl ?_
    rfl
theorem c_law_roll (T : Txt w K mg a) {t : List Int} {c : Nat} (h3 : t.length = 3 := by first | rfl | assumption | lia) : CD P w K mg base 1 a.f__law_roll a.d__law_roll ["lie", "roll"] [lieD t, chr c] (.ok (lieD (roll1 c t))) := by
  obtain ⟨x, y, z, rfl⟩ := three h3
  refine T.A__law_roll.F.okC sc_law_roll rfl (fun cdv A outer s H0 σ Q E hr Z q => ?_)
  refine w_if Z (evt_cmp hr.units (ev_nm 1 rfl) (ev_txt [110]) (hs := (by walk_at "side"))) (fun hc H Z => ?_) (fun hc H Z => ?_)
  · have e : c = 110 := by simpa using hc
    subst e
    refine w_ret Z q (ev_tup (eva_cons (ev_bin ev_int (ev_ix (ev_nm 0 rfl) ev_int (hs := (by walk_at "side"))) (hs := (by walk_at "side"))) (eva_cons (ev_ix (ev_nm 0 rfl) ev_int (hs := (by walk_at "side"))) (eva_cons (ev_ix (ev_nm 0 rfl) ev_int (hs := (by walk_at "side"))) eva_nil)))) ?_
    rfl
  refine W.nil ?_
  have n1 : ¬ c = 110 := by simpa using hc
  refine w_if Z (evt_cmp hr.units (ev_nm 1 rfl) (ev_txt [115]) (hs := (by walk_at "side"))) (fun hc H Z => ?_) (fun hc H Z => ?_)
  · have e : c = 115 := by simpa using hc
    subst e
    refine w_ret Z q (ev_tup (eva_cons (ev_ix (ev_nm 0 rfl) ev_int (hs := (by walk_at "side"))) (eva_cons (ev_bin ev_int (ev_ix (ev_nm 0 rfl) ev_int (hs := (by walk_at "side"))) (hs := (by walk_at "side"))) (eva_cons (ev_ix (ev_nm 0 rfl) ev_int (hs := (by walk_at "side"))) eva_nil)))) ?_
    rfl
  refine W.nil ?_
  have n2 : ¬ c = 115 := by simpa using hc
  refine w_if Z (evt_cmp hr.units (ev_nm 1 rfl) (ev_txt [101]) (hs := (by walk_at "side"))) (fun hc H Z => ?_) (fun hc H Z => ?_)
  · have e : c = 101 := by simpa using hc
    subst e
    refine w_ret Z q (ev_tup (eva_cons (ev_bin ev_int (ev_ix (ev_nm 0 rfl) ev_int (hs := (by walk_at "side"))) (hs := (by walk_at "side"))) (eva_cons (ev_ix (ev_nm 0 rfl) ev_int (hs := (by walk_at "side"))) (eva_cons (ev_ix (ev_nm 0 rfl) ev_int (hs := (by walk_at "side"))) eva_nil)))) ?_
    rfl
  refine W.nil ?_
  have n3 : ¬ c = 101 := by simpa using hc
  refine w_ret Z q (ev_tup (eva_cons (ev_ix (ev_nm 0 rfl) ev_int (hs := (by walk_at "side"))) (eva_cons (ev_ix (ev_nm 0 rfl) ev_int (hs := (by walk_at "side"))) (eva_cons (ev_bin ev_int (ev_ix (ev_nm 0 rfl) ev_int (hs := (by walk_at "side"))) (hs := (by walk_at "side"))) eva_nil)))) ?_
  unfold roll1
  dsimp only
  rw [if_neg n1, if_neg n3, if_neg n2]
  rfl
theorem c_law_floor (T : Txt w K mg a) {ns : List Int} {st most : Int} (h0 : 0 ≤ st := by walk_at "side") (hm : 1 ≤ most ∧ most ≤ 8 := by walk_at "side") : CD P w K mg base 2 a.f__law_floor a.d__law_floor ["script", "start", "most"] [.list (List.map PyData.int ns), .int st, .int most] (.ok (flD (lfloor ns st most))) := by
  refine T.A__law_floor.F.okC sc_law_floor rfl (fun cdv A outer s H0 σ Q E hr Z q => ?_)
  refine w_set (i := 3) sc_law_floor.nd rfl (Or.inl rfl) Z (ev_call (c_law_cell_at (P := P) (w := w) (base := base) T) (hr.mono (by decide)) rfl T.A__law_cell_at.m T.A__law_cell_at.k T.A__law_cell_at.b (eva_cons (ev_nm 0 rfl) (eva_cons (ev_nm 1 rfl) eva_nil))) ?_; intro σ H Z
  unfold lfloor at q
  generalize hc0 : ns.getD st.toNat 0 = c at Z q
  have a1 := Int.emod_nonneg c (show most ≠ 0 by lia)
  have a2 := Int.emod_lt_of_pos c (show 0 < most by lia)
  have b1 := Int.emod_nonneg (c / 8) (show most ≠ 0 by lia)
  have b2 := Int.emod_lt_of_pos (c / 8) (show 0 < most by lia)
  refine w_set (i := 4) sc_law_floor.nd rfl (Or.inl rfl) Z (ev_bin ev_int (ev_bin (ev_nm 3 rfl) (ev_nm 2 rfl) (hs := (by walk_at "side"))) (hs := (by walk_at "side"))) ?_; intro σ H Z
  generalize hm0 : 1 + c % most = m at Z q
  refine w_set (i := 5) sc_law_floor.nd rfl (Or.inl rfl) Z (ev_bin ev_int (ev_bin (ev_bin (ev_nm 3 rfl) ev_int (hs := ⟨by decide, by decide⟩)) (ev_nm 2 rfl) (hs := (by walk_at "side"))) (hs := (by walk_at "side"))) ?_; intro σ H Z
  generalize hn0 : 1 + c / 8 % most = n at Z q
  refine w_set (i := 6) sc_law_floor.nd rfl (Or.inl rfl) Z (ev_ix (ev_as (d' := .list (List.map PyData.int [2, 4, 9, 99])) (ev_lst (eva_cons ev_int (eva_cons ev_int (eva_cons ev_int (eva_cons ev_int eva_nil))))) (by first | rfl | assumption | decide +kernel | (simp only [List.map_append, List.map_cons, List.map_nil]) | (show PyData.list _ = PyData.list (List.map _ (_ ++ _ ++ _)); rw [List.map_append, List.map_append]; rfl) | (rw [List.map_map]; rfl))) (ev_bin (ev_bin (ev_nm 3 rfl) ev_int (hs := ⟨by decide, by decide⟩)) ev_int (hs := (by decide))) (hs := ⟨by lia, by show _ < (4 : Int); lia⟩)) ?_; intro σ H Z
  have hr0 := lrare_pos c
  change Sta K H0 H σ [some (.d (.list (List.map PyData.int ns))), some (.d (.int st)), some (.d (.int most)), some (.d (.int c)), some (.d (.int m)), some (.d (.int n)), some (.d (.int (lrare c))), none, none, none, none, none] [] at Z
  generalize lrare c = rare at Z q hr0
  generalize hc1 : ns.getD (st + 1).toNat 0 = c1 at q
  refine w_own (i := 7) sc_law_floor.nd rfl (Or.inl rfl) Z (ev_lst eva_nil) ?_; intro a1 σ H Z
  refine w_for (i := 8) (fun j env own => ∃ a0 v8 v9 v10 v11, own = [(a0, .l (List.map txD (lfl c1 rare j n.toNat)))] ∧ env = [some (.d (.list (List.map PyData.int ns))), some (.d (.int st)), some (.d (.int most)), some (.d (.int c)), some (.d (.int m)), some (.d (.int n)), some (.d (.int rare)), some (.o 0), v8, v9, v10, v11]) ownE rfl sc_law_floor.nd rfl (Or.inl rfl) Z (evi_range1 rfl T.n_range (ev_nm 4 rfl) (by walk_at "side")) ?_ (fun B hB j y env own σ H hj hp Z => ?_) (fun env own σ H hp Z => ?_)
  · exact ⟨a1, none, none, none, none, rfl, rfl⟩
  · obtain ⟨a0, v8, v9, v10, v11, rfl, rfl⟩ := hp
    obtain ⟨rfl, hj6⟩ := range_at hj
    refine w_set (i := 9) sc_law_floor.nd rfl (Or.inl rfl) Z (ev_txt []) ?_; intro σ H Z
    refine w_for (i := 10) (fun i env own => ∃ a0 v10 v11, own = [(a0, .l (List.map txD (lfl c1 rare y n.toNat)))] ∧ env = [some (.d (.list (List.map PyData.int ns))), some (.d (.int st)), some (.d (.int most)), some (.d (.int c)), some (.d (.int m)), some (.d (.int n)), some (.d (.int rare)), some (.o 0), some (.d (natD y)), some (.d (.str (tx (lrow c1 rare y i)))), v10, v11]) ownE rfl sc_law_floor.nd rfl (Or.inl rfl) Z (evi_range1 rfl T.n_range (ev_nm 5 rfl) (by walk_at "side")) ?_ (fun B2 hB2 j2 y2 env own σ H hj2 hp Z => ?_) (fun env own σ H hp Z => ?_)
    · exact ⟨a0, _, _, rfl, rfl⟩
    · obtain ⟨a0, v10, v11, rfl, rfl⟩ := hp
      obtain ⟨rfl, hj7⟩ := range_at hj2
      have hl := lrow_len c1 rare y y2
      refine w_set (i := 11) sc_law_floor.nd rfl (Or.inl rfl) Z (ev_bin (ev_call (c_law_mix (P := P) (w := w) (base := base) T) (hr.mono (by decide)) rfl T.A__law_mix.m T.A__law_mix.k T.A__law_mix.b (eva_cons (ev_call (c_law_cell_at (P := P) (w := w) (base := base) T) (hr.mono (by decide)) rfl T.A__law_cell_at.m T.A__law_cell_at.k T.A__law_cell_at.b (eva_cons (ev_nm 0 rfl) (eva_cons (ev_bin (ev_nm 1 rfl) ev_int (hs := (by walk_at "side"))) eva_nil))) (eva_cons (ev_bin (ev_bin ev_int (ev_nm 8 rfl) (hs := (Or.inl ⟨by decide, by decide⟩))) (ev_nm 10 rfl) (hs := (by walk_at "side"))) eva_nil))) ev_int (hs := ⟨by decide, by decide⟩)) ?_; intro σ H Z
      rw [hc1] at Z
      refine w_set (i := 9) sc_law_floor.nd rfl (Or.inl rfl) Z (ev_bin (ev_nm 9 rfl) (ev_ix (ev_txt [46, 35]) (ev_callTy rfl hr.units rfl T.n_int My.boot_int (eva_cons (ev_cmp hr.units (ev_bin (ev_nm 11 rfl) (ev_nm 6 rfl) (hs := (by walk_at "side"))) ev_int (hs := (by walk_at "side"))) eva_nil) (hs := (by walk_at "side"))) (hs := ⟨by split <;> lia, by show _ < (2 : Int); split <;> lia, by decide⟩)) (hs := (by rw [hl]; simp only [List.length_singleton]; lia))) ?_; intro σ H Z
      refine W.nil ⟨_, _, ⟨a0, some (.d (natD y2)), some (.d (.int (lmix c1 (10 * (y : Int) + (y2 : Int)) / 7))), rfl, ?_⟩, Z⟩
      rw [lrow_succ]
      rfl
    · obtain ⟨a0, v10, v11, rfl, rfl⟩ := hp
      have hl := lfl_len c1 rare y n.toNat
      rw [List.length_range] at Z
      refine w_append (i := 7) rfl (Or.inl rfl) rfl rfl Z (ev_nm 9 rfl) (fun H Z => ?_) (hlen := (by simp only [List.length_map]; lia))
      refine W.nil ⟨_, _, ⟨a0, some (.d (natD y)), _, v10, v11, ?_, rfl⟩, Z⟩
      rw [lfl_succ, List.map_append]
      rfl
  · obtain ⟨a0, v8, v9, v10, v11, rfl, rfl⟩ := hp
    rw [List.length_range] at Z
    refine w_retO (i := 7) Z q rfl (Or.inl rfl) rfl rfl ?_
    rfl
theorem ext_cells (fl : Fl) (i : Nat) : List.map plD (cellsTo fl i) ++ (((List.range (width fl)).filter fun j : Nat => decide ([signAt fl (i : Int) (j : Int)] = [46])).map fun j : Nat => PyData.tuple [.int (i : Int), .int (j : Int)]) = List.map plD (cellsTo fl (i + 1)) := by
  rw [cellsTo_succ, List.map_append]
  congr 1
  unfold cellsRow
  rw [List.map_map]
  rfl
theorem c_law_cells (T : Txt w K mg a) {fl : Fl} (hf : LFl 8 fl := by first | assumption) : CD P w K mg base 1 a.f__law_cells a.d__law_cells ["floor"] [flD fl] (.ok (.list (List.map plD (cellsOf fl)))) := by
  have n1 := hf.n1
  have n8 := hf.n8
  have w8 := hf.w8
  refine T.A__law_cells.F.okC sc_law_cells rfl (fun cdv A outer s H0 σ Q E hr Z q => ?_)
  refine w_own (i := 1) sc_law_cells.nd rfl (Or.inl rfl) Z (ev_lst eva_nil) ?_; intro a1 σ H Z
  refine w_for (i := 2) (fun i env own => ∃ a0 v1, own = [(a0, .l (List.map plD (cellsTo fl i)))] ∧ env = [some (.d (flD fl)), some (.o 0), v1]) ownE rfl sc_law_cells.nd rfl (Or.inr rfl) Z (evi_range1 rfl T.n_range (ev_callB rfl hr.units rfl T.n_len PySem.boot_len (eva_cons (ev_nm 0 rfl) eva_nil) (hs := (by walk_at "side"))) (by lia)) ?_ (fun B hB j y env own σ H hj hp Z => ?_) (fun env own σ H hp Z => ?_)
  · exact ⟨a1, none, rfl, rfl⟩
  · obtain ⟨a0, v1, rfl, rfl⟩ := hp
    obtain ⟨rfl, hj6⟩ := range_at hj
    have hy : y < fl.length := by rw [Int.toNat_natCast] at hj6; exact hj6
    have hrow := hf.row (r := (y : Int)) (by lia) (by lia)
    have l1 := cellsTo_len fl y
    have l2 : y * width fl ≤ 8 * 8 := Nat.mul_le_mul (by lia) w8
    refine w_extend (i := 1) rfl (Or.inl rfl) rfl rfl Z (ev_comp  ["floor", "found", "row"] s_law_cells ["column", "row", "floor"] [none, some 2, some 0] rfl rfl rfl (evi_range1 rfl T.n_range (ev_callB rfl hr.units rfl T.n_len PySem.boot_len (eva_cons (ev_ix (ev_nm 0 rfl) ev_int (hs := ⟨by lia, by lia⟩)) eva_nil) (hs := (by show width fl ≤ 100000; lia))) (by show (-1000000 : Int) ≤ (width fl : Int) ∧ (width fl : Int) ≤ 1000000; lia)) (fun _ _ _ _ => pg_name (i := 0) (show (["column", "row", "floor"] : List Str).Nodup by decide +kernel) rfl (Or.inl rfl)) (fun _ _ _ _ z hz => evif_one (evt_cmp hr.units (ev_ix (ev_ix (ev_nm 2 rfl) (ev_nm 1 rfl) (hs := ⟨by lia, by lia⟩)) (ev_nm 0 rfl) (hs := (by have hz' : z < width fl := by { have := List.mem_range.mp hz; rw [Int.toNat_natCast] at this; exact this }; exact ⟨by lia, by rw [hrow]; lia, by rw [hrow]; lia⟩))) (ev_txt [46]) (hs := (by walk_at "side")))) (fun _ _ _ _ z hz hg => (ev_tup (eva_cons (ev_nm 1 rfl) (eva_cons (ev_nm 0 rfl) eva_nil)))) (hlen := (by rw [List.length_range, Int.toNat_natCast]; show width fl ≤ 100000; lia))) (fun H Z => ?_) (hlen := (by simp only [List.length_map, List.length_append]; have h := List.length_filter_le (fun j : Nat => decide ([signAt fl (y : Int) (j : Int)] = [46])) (List.range (width fl)); rw [List.length_range] at h; have h' : (List.filter (fun j : Nat => decide ([signAt fl (y : Int) (j : Int)] = [46])) (List.range ((((fl.getD (0 : Int).toNat default).length : Nat) : Int)).toNat)).length ≤ 8 := Nat.le_trans h w8; exact Nat.le_trans (Nat.add_le_add l1 h') (by lia)))
    refine W.nil ⟨_, _, ⟨a0, some (.d (natD y)), ?_, rfl⟩, Z⟩
    rw [← ext_cells]
    rfl
  · obtain ⟨a0, v1, rfl, rfl⟩ := hp
    have e : (List.range ((fl.length : Nat) : Int).toNat).length = fl.length := by simp
    rw [e] at Z
    refine w_retO (i := 1) Z q rfl (Or.inl rfl) rfl rfl ?_
    rfl
theorem c_law_next (T : Txt w K mg a) {fl : Fl} {s0 : Std} {c : Nat} (hf : LFl 8 fl := by first | assumption) (hR : isRoll c = true := by walk_at "side") (h3 : s0.2.length = 3 := by first | rfl | assumption | lia) : CD P w K mg base 2 a.f__law_next a.d__law_next ["floor", "stand", "roll"] [flD fl, stD s0, chr c] (.ok (nxD (nx fl s0 c))) := by
  obtain ⟨⟨r, k⟩, t⟩ := s0
  have n1 := hf.n1
  have n8 := hf.n8
  have w8 := hf.w8
  refine T.A__law_next.F.okC sc_law_next rfl (fun cdv A outer s H0 σ Q E hr Z q => ?_)
  refine w_set (i := 3) sc_law_next.nd rfl (Or.inl rfl) Z (ev_bin (ev_bin (ev_ix (ev_ix (ev_nm 1 rfl) ev_int (hs := (by walk_at "side"))) ev_int (hs := (by walk_at "side"))) (ev_callTy rfl hr.units rfl T.n_int My.boot_int (eva_cons (ev_cmp hr.units (ev_nm 2 rfl) (ev_txt [115]) (hs := (by walk_at "side"))) eva_nil) (hs := (by walk_at "side"))) (hs := (by walk_at "side"))) (ev_callTy rfl hr.units rfl T.n_int My.boot_int (eva_cons (ev_cmp hr.units (ev_nm 2 rfl) (ev_txt [110]) (hs := (by walk_at "side"))) eva_nil) (hs := (by walk_at "side"))) (hs := (by walk_at "side"))) ?_; intro σ H Z
  refine w_set (i := 4) sc_law_next.nd rfl (Or.inl rfl) Z (ev_bin (ev_bin (ev_ix (ev_ix (ev_nm 1 rfl) ev_int (hs := (by walk_at "side"))) ev_int (hs := (by walk_at "side"))) (ev_callTy rfl hr.units rfl T.n_int My.boot_int (eva_cons (ev_cmp hr.units (ev_nm 2 rfl) (ev_txt [101]) (hs := (by walk_at "side"))) eva_nil) (hs := (by walk_at "side"))) (hs := (by walk_at "side"))) (ev_callTy rfl hr.units rfl T.n_int My.boot_int (eva_cons (ev_cmp hr.units (ev_nm 2 rfl) (ev_txt [119]) (hs := (by walk_at "side"))) eva_nil) (hs := (by walk_at "side"))) (hs := (by walk_at "side"))) ?_; intro σ H Z
  have er : r + (if decide ([c] = [115]) = true then (1 : Int) else 0) - (if decide ([c] = [110]) = true then (1 : Int) else 0) = (goP (r, k) c).1 := by
    unfold isRoll at hR
    simp at hR
    rcases hR with ((h | h) | h) | h <;> subst h <;> simp [goP, stepOf] <;> lia
  have ek : k + (if decide ([c] = [101]) = true then (1 : Int) else 0) - (if decide ([c] = [119]) = true then (1 : Int) else 0) = (goP (r, k) c).2 := by
    unfold isRoll at hR
    simp at hR
    rcases hR with ((h | h) | h) | h <;> subst h <;> simp [goP, stepOf] <;> lia
  rw [er, ek] at Z
  generalize hg : goP (r, k) c = g at Z
  obtain ⟨r', k'⟩ := g
  have w0 : width fl ≤ 100000 := by lia
  refine w_if Z (EvW.t (evw_or (evt_not (evt_chain hr.units ev_int (ev_nm 3 rfl) (ev_callB rfl hr.units rfl T.n_len PySem.boot_len (eva_cons (ev_nm 0 rfl) eva_nil) (hs := (by walk_at "side"))))) (fun hc => (evw_or (evt_not (evt_chain hr.units ev_int (ev_nm 4 rfl) (ev_callB rfl hr.units rfl T.n_len PySem.boot_len (eva_cons (ev_ix (ev_nm 0 rfl) ev_int (hs := ⟨by lia, by lia⟩)) eva_nil) (hs := w0)))) (fun hc => (evw_or1 (evt_cmp hr.units (ev_ix (ev_ix (ev_nm 0 rfl) (ev_nm 3 rfl) (hs := (by obtain ⟨h1, h2⟩ := (Bool.and_eq_true _ _).mp (not_f ‹(!(decide (0 ≤ r') && decide (r' < (fl.length : Int)))) = false›); exact ⟨of_decide_eq_true h1, of_decide_eq_true h2⟩))) (ev_nm 4 rfl) (hs := (by obtain ⟨h1, h2⟩ := (Bool.and_eq_true _ _).mp (not_f ‹(!(decide (0 ≤ r') && decide (r' < (fl.length : Int)))) = false›); obtain ⟨h3, h4⟩ := (Bool.and_eq_true _ _).mp (not_f hc); have hw := hf.row (of_decide_eq_true h1) (of_decide_eq_true h2); exact ⟨of_decide_eq_true h3, by rw [hw]; exact of_decide_eq_true h4, by rw [hw]; exact w0⟩))) (ev_txt [46]) (hs := (by walk_at "side"))))))))) (fun hc H Z => ?_) (fun hc H Z => ?_)
  · have hn : isCell fl r' k' = false := by
      unfold isCell
      split
      · rename_i h1
        split
        · rename_i h2
          rw [decide_eq_true h1.1, decide_eq_true h1.2] at hc
          have hw := hf.row h1.1 h1.2
          rw [hw] at h2
          have h2' : k' < ((fl.getD (0 : Int).toNat default).length : Int) := h2.2
          rw [decide_eq_true h2.1, decide_eq_true h2'] at hc
          have hx : (!decide ([signAt fl r' k'] = [46])) = true := hc
          have hx : ¬ [signAt fl r' k'] = [46] := by simpa using hx
          exact beq_eq_false_iff_ne.mpr fun e => hx (by rw [e])
        · rfl
      · rfl
    refine w_ret Z q ev_non ?_
    unfold nx
    rw [if_neg (by rw [hg, hn]; simp)]
    rfl
  · have g1 : (0 ≤ r' ∧ r' < (fl.length : Int)) ∧ (0 ≤ k' ∧ k' < (width fl : Int)) ∧ signAt fl r' k' = 46 := by
      obtain ⟨q1, q2⟩ := Bool.or_eq_false_iff.mp hc
      obtain ⟨q2, q3⟩ := Bool.or_eq_false_iff.mp q2
      have q1 := not_f q1
      have q2 := not_f q2
      rw [Bool.and_eq_true] at q1 q2
      have q3 : decide ([signAt fl r' k'] = [46]) = true := not_f q3
      exact ⟨⟨of_decide_eq_true q1.1, of_decide_eq_true q1.2⟩, ⟨of_decide_eq_true q2.1, of_decide_eq_true q2.2⟩, (List.cons.inj (of_decide_eq_true q3)).1⟩
    have hn : isCell fl r' k' = true := by
      unfold isCell
      rw [if_pos g1.1, if_pos ⟨g1.2.1.1, by rw [hf.row g1.1.1 g1.1.2]; exact g1.2.1.2⟩, g1.2.2]
      rfl
    refine W.nil ?_
    refine w_ret Z q (ev_tup (eva_cons (ev_tup (eva_cons (ev_nm 3 rfl) (eva_cons (ev_nm 4 rfl) eva_nil))) (eva_cons (ev_call (c_law_roll (P := P) (w := w) (base := base) T h3) (hr.mono (by decide)) rfl T.A__law_roll.m T.A__law_roll.k T.A__law_roll.b (eva_cons (ev_ix (ev_nm 1 rfl) ev_int (hs := (by walk_at "side"))) (eva_cons (ev_nm 2 rfl) eva_nil))) eva_nil))) ?_
    unfold nx
    rw [if_pos (by rw [hg]; exact ⟨hR, hn⟩), hg]
    rfl
theorem c_law_far (T : Txt w K mg a) {fl : Fl} {s0 : Std} (hfl : LFl 8 fl) (on : On fl s0) : CD P w K mg base 3 a.f__law_far a.d__law_far ["floor", "stand"] [flD fl, stD s0] (.ok (.dict (encF (farOf fl s0)))) := by
  have hf := hfl.isFloor (by decide)
  have hb := hfl.flB (by decide)
  refine T.A__law_far.F.okC sc_law_far rfl (fun cdv A outer s H0 σ Q E hr Z q => ?_)
  refine w_ownD (i := 2) sc_law_far.nd rfl (Or.inl rfl) Z (ev_dict1 hr.units (ev_nm 1 rfl) ev_int) ?_; intro a1 σ H Z
  refine w_set (i := 3) sc_law_far.nd rfl (Or.inl rfl) Z (ev_lst (eva_cons (ev_nm 1 rfl) eva_nil)) ?_; intro σ H Z
  refine w_set (i := 4) sc_law_far.nd rfl (Or.inl rfl) Z ev_int ?_; intro σ H Z
  refine w_while (m := 2 * (1537 - 1) + 1) (fun mm env own => ∃ (k : Nat) (ar : Addr) (v5 v6 v7 v8 : Option Sl), own = [(ar, .d (encF (itF fl s0 k).1))] ∧ env = [some (.d (flD fl)), some (.d (stD s0)), some (.o 0), some (.d (.list (List.map stD (itF fl s0 k).2))), some (.d (.int (k : Nat))), v5, v6, v7, v8] ∧ k + (if (itF fl s0 k).2.isEmpty then 0 else 1) ≤ (itF fl s0 k).1.length ∧ mm = 2 * (1537 - (itF fl s0 k).1.length) + (if (itF fl s0 k).2.isEmpty then 0 else 1)) ownE Z ?_ (fun m env own hp => ?_)
  · exact ⟨0, a1, none, none, none, none, rfl, rfl, Nat.le_refl _, rfl⟩
  · obtain ⟨k, ar, v5, v6, v7, v8, rfl, rfl, hkm, rfl⟩ := hp
    have L := itF_lvl fl s0 k
    have Lon := L.on on
    have hlen := few hf L.nd Lon
    have Lsub := L.sub
    have hnx : itF fl s0 (k + 1) = ring fl wsneL (vFar k) 0 (itF fl s0 k).1 (itF fl s0 k).2 := rfl
    have L2' := itF_lvl fl s0 (k + 1)
    have hlen2 := few hf L2'.nd (L2'.on on)
    have rl := ring_len fl wsneL (vFar k) 0 L.nd Lsub
    have hst := @far_lvl fl s0 k
    rw [hnx] at hlen2
    generalize hm0 : (itF fl s0 k).1 = m at *
    generalize he0 : (itF fl s0 k).2 = e at *
    refine ⟨_, (evt_cmp hr.units (ev_nm 3 rfl) (ev_lst eva_nil) (hs := (by walk_at "side"))), fun σ H Z => ⟨fun hc => ?_, fun hc => ?_⟩⟩
    · have hne : e ≠ [] := fun h => by rw [h] at hc; cases hc
      have hemp : e.isEmpty = false := by cases e with | nil => exact absurd rfl hne | cons _ _ => rfl
      rw [hemp] at hkm ⊢
      refine w_set (i := 4) sc_law_far.nd rfl (Or.inl rfl) Z (ev_bin (ev_nm 4 rfl) ev_int (hs := (by walk_at "side"))) ?_; intro σ H Z
      rw [show ((k : Nat) : Int) + 1 = ((k + 1 : Nat) : Int) from rfl] at Z
      refine w_own (i := 5) sc_law_far.nd rfl (Or.inl rfl) Z (ev_lst eva_nil) ?_; intro a1 σ H Z
      refine w_for (i := 6) (fun j env own => ∃ ar ab v6 v7 v8, own = [(ar, .d (encF ((e.take j).foldl (addS fl wsneL (vFar k) 0) (m, [])).1)), (ab, .l (List.map stD ((e.take j).foldl (addS fl wsneL (vFar k) 0) (m, [])).2))] ∧ env = [some (.d (flD fl)), some (.d (stD s0)), some (.o 0), some (.d (.list (List.map stD e))), some (.d (.int ((k + 1 : Nat) : Int))), some (.o 1), v6, v7, v8]) ownE rfl sc_law_far.nd rfl (Or.inl rfl) Z (evi_val (ev_nm 3 rfl)) ?_ (fun B hB j y env own σ H hj hp Z => ?_) (fun env own σ H hp Z => ?_)
      · exact ⟨ar, a1, _, _, _, rfl, rfl⟩
      · obtain ⟨ar, ab, v6, v7, v8, rfl, rfl⟩ := hp
        have hye := List.mem_of_getElem? hj
        have hyon := Lon y (Lsub y hye)
        have hy3 := hyon.len
        have et : (e.take (j + 1)).foldl (addS fl wsneL (vFar k) 0) (m, []) = addS fl wsneL (vFar k) 0 ((e.take j).foldl (addS fl wsneL (vFar k) 0) (m, [])) y := by rw [List.take_add_one, hj, List.foldl_append]; rfl
        refine w_for (i := 7) (fun i env own => ∃ ar ab v7 v8, own = [(ar, .d (encF ((wsneL.take i).foldl (add1 fl (vFar k) 0 y) ((e.take j).foldl (addS fl wsneL (vFar k) 0) (m, []))).1)), (ab, .l (List.map stD ((wsneL.take i).foldl (add1 fl (vFar k) 0 y) ((e.take j).foldl (addS fl wsneL (vFar k) 0) (m, []))).2))] ∧ env = [some (.d (flD fl)), some (.d (stD s0)), some (.o 0), some (.d (.list (List.map stD e))), some (.d (.int ((k + 1 : Nat) : Int))), some (.o 1), some (.d (stD y)), v7, v8]) ownE rfl sc_law_far.nd rfl (Or.inl rfl) Z (evi_val (ev_txt [119, 115, 110, 101])) ?_ (fun B2 hB2 j2 y2 env own σ H hj2 hp Z => ?_) (fun env own σ H hp Z => ?_)
        · exact ⟨ar, ab, _, _, rfl, rfl⟩
        · obtain ⟨ar, ab, v7, v8, rfl, rfl⟩ := hp
          obtain ⟨new, Dn⟩ := part_done (fl := fl) (R := wsneL) (val := vFar k) (dv := 0) L.nd Lsub j hj j2
          have Don := Dn.on Lon (fun p hp => by
            rcases List.mem_append.mp hp with hp | hp
            · exact Lsub _ (List.mem_of_mem_take (mem_cands (s := p.1) (c := p.2).mp hp).1)
            · obtain ⟨c, _, rfl⟩ := List.mem_map.mp hp
              exact Lsub y hye)
          have zlen := few hf Dn.nd Don
          have zl2 : ((wsneL.take j2).foldl (add1 fl (vFar k) 0 y) ((e.take j).foldl (addS fl wsneL (vFar k) 0) (m, []))).2.length ≤ 1536 := by
            have e1 := Dn.eq
            rw [e1] at zlen ⊢
            simp only [List.length_append, List.length_map] at zlen ⊢
            lia
          have et2 : (wsneL.take (j2 + 1)).foldl (add1 fl (vFar k) 0 y) ((e.take j).foldl (addS fl wsneL (vFar k) 0) (m, [])) = add1 fl (vFar k) 0 y ((wsneL.take j2).foldl (add1 fl (vFar k) 0 y) ((e.take j).foldl (addS fl wsneL (vFar k) 0) (m, []))) y2 := by rw [List.take_add_one, hj2, List.foldl_append]; rfl
          have hys : ∃ b, lookP ((wsneL.take j2).foldl (add1 fl (vFar k) 0 y) ((e.take j).foldl (addS fl wsneL (vFar k) 0) (m, []))).1 y = some b := by
            refine Option.isSome_iff_exists.mp (lookP_isSome.mpr ?_)
            rw [Dn.eq]
            show y ∈ (m ++ new).map (·.1)
            rw [List.map_append]
            exact List.mem_append.mpr (.inl (Lsub y hye))
          rw [et2]
          generalize (wsneL.take j2).foldl (add1 fl (vFar k) 0 y) ((e.take j).foldl (addS fl wsneL (vFar k) 0) (m, [])) = z at Z zlen zl2 Dn hys ⊢
          obtain ⟨b, hyb⟩ := hys
          have hyR : isRoll y2 = true := by
            have : ∀ c ∈ wsneL, isRoll c = true := by decide
            exact this y2 (List.mem_of_getElem? hj2)
          refine w_set (i := 8) sc_law_far.nd rfl (Or.inl rfl) Z (ev_call (c_law_next (P := P) (w := w) (base := base) T hfl hyR hy3) (hr.mono (by decide)) rfl T.A__law_next.m T.A__law_next.k T.A__law_next.b (eva_cons (ev_nm 0 rfl) (eva_cons (ev_nm 6 rfl) (eva_cons (ev_nm 7 rfl) eva_nil)))) ?_; intro σ H Z
          refine w_if Z (EvW.t (evw_and (evt_cmp hr.units (ev_nm 8 rfl) ev_non (hs := (by walk_at "side"))) (fun hc => (evw_and1 (evt_cmp hr.units (ev_nm 8 rfl) (ev_nm 2 rfl) (hs := (some_nx hc)) (hm := by with_unfolding_all rfl)))))) (fun hc H Z => ?_) (fun hc H Z => ?_)
          · rw [Bool.and_eq_true] at hc
            obtain ⟨hc1, hc2⟩ := hc
            obtain ⟨t, ht⟩ := Option.isSome_iff_exists.mp (some_nx hc1)
            rw [ht, nxD_some] at Z hc2
            have hno : lookP z.1 t = none := by
              have hc2 : (!(dAt (encF z.1) (stD t)).isSome) = true := hc2
              rw [encF_at] at hc2
              cases h : lookP z.1 t with
              | none => rfl
              | some b => rw [h] at hc2; cases hc2
            have ea : add1 fl (vFar k) 0 y z y2 = (z.1 ++ [(t, ((k + 1 : Nat) : Int))], z.2 ++ [t]) := by
              unfold add1
              rw [ht, hyb]
              show (if (lookP z.1 t).isSome = true then z else _) = _
              rw [hno]
              rfl
            rw [ea]
            refine w_setD (i := 2) hr.units rfl (Or.inl rfl) rfl rfl Z (ev_nm 4 rfl) (ev_nm 8 rfl) (fun H Z => ?_) (hlen := (by rw [List.length_map]; lia))
            rw [encF_put hno] at Z
            refine w_append (i := 5) rfl (Or.inl rfl) rfl rfl Z (ev_nm 8 rfl) (fun H Z => ?_) (hlen := (by rw [List.length_map]; lia))
            refine W.nil (W.nil ⟨_, _, ⟨ar, ab, some (.d (chr y2)), some (.d (stD t)), ?_, rfl⟩, Z⟩)
            rw [List.map_append]
            rfl
          · have ea : add1 fl (vFar k) 0 y z y2 = z := by
              unfold add1
              cases hx : nx fl y y2 with
              | none => rfl
              | some t =>
                show (if (lookP z.1 t).isSome = true then z else _) = _
                rw [if_pos]
                rw [hx] at hc
                have hc : (true && !(dAt (encF z.1) (stD t)).isSome) = false := hc
                rw [encF_at] at hc
                cases h : lookP z.1 t with
                | none => rw [h] at hc; cases hc
                | some b => rfl
            rw [ea]
            exact W.nil (W.nil ⟨_, _, ⟨ar, ab, some (.d (chr y2)), _, rfl, rfl⟩, Z⟩)
        · obtain ⟨ar, ab, v7, v8, rfl, rfl⟩ := hp
          refine W.nil ⟨_, _, ⟨ar, ab, some (.d (stD y)), v7, v8, ?_, rfl⟩, Z⟩
          rw [et]
          rfl
      · obtain ⟨ar, ab, v6, v7, v8, rfl, rfl⟩ := hp
        rw [List.take_length] at Z
        have Z : Sta K H0 H σ _ ([(ar, .d (encF (ring fl wsneL (vFar k) 0 m e).1))] ++ [(ab, .l (List.map stD (ring fl wsneL (vFar k) 0 m e).2))]) := Z
        have Z := ((Z.forget 6).forget 7).forget 8
        have Z := Z.gives 5 rfl rfl
        refine w_set (i := 3) sc_law_far.nd rfl (Or.inl rfl) Z (ev_nm 5 rfl) ?_; intro σ H Z
        rw [← hnx] at Z
        refine W.nil ⟨_, _, _, ?_, ⟨k + 1, ar, some (.f (.list (List.map stD (itF fl s0 (k + 1)).2))), none, none, none, rfl, rfl, ?_, rfl⟩, Z⟩
        · rw [hnx]
          cases hq : (ring fl wsneL (vFar k) 0 m e).2.isEmpty with
          | true =>
            have := List.isEmpty_iff.mp hq
            rw [this, List.length_nil] at rl
            rw [rl]
            simp
          | false =>
            have : 0 < (ring fl wsneL (vFar k) 0 m e).2.length := by
              cases h : (ring fl wsneL (vFar k) 0 m e).2 with
              | nil => rw [h] at hq; cases hq
              | cons x r => simp
            simp
            lia
        · rw [hnx]
          cases hq : (ring fl wsneL (vFar k) 0 m e).2.isEmpty with
          | true => simp at hkm ⊢; lia
          | false =>
            have : 0 < (ring fl wsneL (vFar k) 0 m e).2.length := by
              cases h : (ring fl wsneL (vFar k) 0 m e).2 with
              | nil => rw [h] at hq; cases hq
              | cons x r => simp
            simp at hkm ⊢
            lia
    · have he : e = [] := by
        cases e with
        | nil => rfl
        | cons x r =>
          have e9 : PyData.eqv (.list (List.map stD (x :: r))) (.list (List.map stD [])) = decide (x :: r = []) := eqv_all eqv_st _ _
          rw [show PyData.list [] = PyData.list (List.map stD []) from rfl, e9] at hc
          simp at hc
      refine w_retD (i := 2) Z q rfl (Or.inl rfl) rfl rfl ?_
      rw [hst he (by lia)]
theorem c_law_refused (T : Txt w K mg a) {bs : List Bool} {n : Int} (h60 : bs.length ≤ 60 := by walk_at "side") : CD P w K mg base 1 a.f__law_refused a.d__law_refused ["marks", "which"] [.list (List.map PyData.bool bs), .int n] (.ok (.bool (decide (bs = marksOf n)))) := by
  refine T.A__law_refused.F.okC sc_law_refused rfl (fun cdv A outer s H0 σ Q E hr Z q => ?_)
  refine w_ret Z q (ev_cmp hr.units (ev_nm 0 rfl) (ev_as (d' := .list (List.map PyData.bool (marksOf n))) (ev_bin (ev_comp0  ["marks", "which"] s_law_refused ["k", "which"] [none, some 1] rfl rfl rfl (evi_range1 rfl T.n_range ev_int (by walk_at "side")) (fun _ _ _ _ => pg_name (i := 0) (show (["k", "which"] : List Str).Nodup by decide +kernel) rfl (Or.inl rfl)) (fun _ _ _ _ z hz => (ev_cmp hr.units (ev_nm 0 rfl) (ev_nm 1 rfl) (hs := (by walk_at "side")))) (hlen := (by rw [List.length_range]; decide))) (ev_lst (eva_cons ev_bl eva_nil)) (hs := (by rw [List.length_map, List.length_range]; decide))) (by first | rfl | assumption | decide +kernel | (simp only [List.map_append, List.map_cons, List.map_nil]) | (show PyData.list _ = PyData.list (List.map _ (_ ++ _ ++ _)); rw [List.map_append, List.map_append]; rfl) | (rw [List.map_map]; rfl))) (hs := (by walk_at "side"))) ?_
  rfl
inductive Told (a : Adr) : Res → PyData → Prop
  | ok {d : PyData} : Told a (.ok d) (.tuple [d, .list (List.map PyData.bool [])])
  | isNoRoll : Told a (.er a.c_NoRoll) (.tuple [.none, .list (List.map PyData.bool (Die.marksOf 3))])
  | isNoLie : Told a (.er a.c_NoLie) (.tuple [.none, .list (List.map PyData.bool (Die.marksOf 2))])
  | isNoFloor : Told a (.er a.c_NoFloor) (.tuple [.none, .list (List.map PyData.bool (Die.marksOf 0))])
  | isNoCell : Told a (.er a.c_NoCell) (.tuple [.none, .list (List.map PyData.bool (Die.marksOf 1))])
theorem c_law_told (T : Txt w K mg a) {fl : Fl} {s0 : Std} {p : Pl}  {r : Res} {d : PyData} (he : r = endsR a fl s0 p) (hd : Told a r d)  (hb : FlB fl) (sb : StB s0) (hp : smallP p): CD P w K mg base 7 a.f__law_told a.d__law_told ["floor", "stand", "place"] [ flD fl, stD s0, plD p ] (.ok d) := by
  refine T.A__law_told.F.okC sc_law_told rfl (fun cdv A outer s H0 σ Q E hr Z q => ?_)
  refine w_set (i := 3) sc_law_told.nd rfl (Or.inl rfl) Z ev_non ?_; intro σ H Z
  refine w_setF (i := 4) sc_law_told.nd rfl (Or.inl rfl) Z (ev_lst eva_nil) ?_; intro σ H Z
  refine w_try (i := 3) (j := 5) (c_ends (P := P) (w := w) (base := base) T he hb sb hp) (hr.mono (by decide)) body_fn sc_law_told.nd rfl (Or.inl rfl) rfl T.A_ends.m T.A_ends.k T.A_ends.b Z (eva_cons (ev_nm 0 rfl) (eva_cons (ev_nm 1 rfl) (eva_cons (ev_nm 2 rfl) eva_nil))) rfl rfl rfl ?_ ?_
  · intro d' hd' σ H Z
    rw [hd'] at hd
    cases hd
    refine w_ret Z q (ev_tup (eva_cons (ev_nm 3 rfl) (eva_cons (ev_nm 4 rfl) eva_nil))) ?_
    rfl
  · intro C hC
    rw [hC] at hd
    generalize hCx : Res.er C = rC at hd
    cases hd with
    | ok => cases hCx
    | isNoRoll =>
      cases hCx
      refine ⟨_, T.m_DieError, T.t_NoRoll, fun xa σ H Z => ?_⟩
      refine w_setF (i := 4) sc_law_told.nd rfl (Or.inl rfl) Z (ev_lst (eva_cons (ev_isx (i := 5) rfl T.n_isinstance rfl T.m_NoFloor rfl (Or.inl rfl) rfl T.e_NoRoll T.i_NoRoll_NoFloor) (eva_cons (ev_isx (i := 5) rfl T.n_isinstance rfl T.m_NoCell rfl (Or.inl rfl) rfl T.e_NoRoll T.i_NoRoll_NoCell) (eva_cons (ev_isx (i := 5) rfl T.n_isinstance rfl T.m_NoLie rfl (Or.inl rfl) rfl T.e_NoRoll T.i_NoRoll_NoLie) (eva_cons (ev_isx (i := 5) rfl T.n_isinstance rfl T.m_NoRoll rfl (Or.inl rfl) rfl T.e_NoRoll T.i_NoRoll_NoRoll) eva_nil))))) ?_; intro σ H Z
      refine w_setF (i := 4) sc_law_told.nd rfl (Or.inl rfl) Z (ev_bin (ev_nm 4 rfl) (ev_lst (eva_cons (ev_isx (i := 5) rfl T.n_isinstance rfl T.m_NoWay rfl (Or.inl rfl) rfl T.e_NoRoll T.i_NoRoll_NoWay) (eva_cons (ev_isxT (i := 5) rfl T.n_isinstance rfl T.n_ValueError My.boot_ValueError rfl (Or.inl rfl) rfl T.e_NoRoll T.i_NoRoll_ValueError) eva_nil))) (hs := (by walk_at "side"))) ?_; intro σ H Z
      refine W.nil ?_
      have Z := Z.unset 5
      refine w_ret Z q (ev_tup (eva_cons (ev_nm 3 rfl) (eva_cons (ev_nm 4 rfl) eva_nil))) ?_
      rfl
    | isNoLie =>
      cases hCx
      refine ⟨_, T.m_DieError, T.t_NoLie, fun xa σ H Z => ?_⟩
      refine w_setF (i := 4) sc_law_told.nd rfl (Or.inl rfl) Z (ev_lst (eva_cons (ev_isx (i := 5) rfl T.n_isinstance rfl T.m_NoFloor rfl (Or.inl rfl) rfl T.e_NoLie T.i_NoLie_NoFloor) (eva_cons (ev_isx (i := 5) rfl T.n_isinstance rfl T.m_NoCell rfl (Or.inl rfl) rfl T.e_NoLie T.i_NoLie_NoCell) (eva_cons (ev_isx (i := 5) rfl T.n_isinstance rfl T.m_NoLie rfl (Or.inl rfl) rfl T.e_NoLie T.i_NoLie_NoLie) (eva_cons (ev_isx (i := 5) rfl T.n_isinstance rfl T.m_NoRoll rfl (Or.inl rfl) rfl T.e_NoLie T.i_NoLie_NoRoll) eva_nil))))) ?_; intro σ H Z
      refine w_setF (i := 4) sc_law_told.nd rfl (Or.inl rfl) Z (ev_bin (ev_nm 4 rfl) (ev_lst (eva_cons (ev_isx (i := 5) rfl T.n_isinstance rfl T.m_NoWay rfl (Or.inl rfl) rfl T.e_NoLie T.i_NoLie_NoWay) (eva_cons (ev_isxT (i := 5) rfl T.n_isinstance rfl T.n_ValueError My.boot_ValueError rfl (Or.inl rfl) rfl T.e_NoLie T.i_NoLie_ValueError) eva_nil))) (hs := (by walk_at "side"))) ?_; intro σ H Z
      refine W.nil ?_
      have Z := Z.unset 5
      refine w_ret Z q (ev_tup (eva_cons (ev_nm 3 rfl) (eva_cons (ev_nm 4 rfl) eva_nil))) ?_
      rfl
    | isNoFloor =>
      cases hCx
      refine ⟨_, T.m_DieError, T.t_NoFloor, fun xa σ H Z => ?_⟩
      refine w_setF (i := 4) sc_law_told.nd rfl (Or.inl rfl) Z (ev_lst (eva_cons (ev_isx (i := 5) rfl T.n_isinstance rfl T.m_NoFloor rfl (Or.inl rfl) rfl T.e_NoFloor T.i_NoFloor_NoFloor) (eva_cons (ev_isx (i := 5) rfl T.n_isinstance rfl T.m_NoCell rfl (Or.inl rfl) rfl T.e_NoFloor T.i_NoFloor_NoCell) (eva_cons (ev_isx (i := 5) rfl T.n_isinstance rfl T.m_NoLie rfl (Or.inl rfl) rfl T.e_NoFloor T.i_NoFloor_NoLie) (eva_cons (ev_isx (i := 5) rfl T.n_isinstance rfl T.m_NoRoll rfl (Or.inl rfl) rfl T.e_NoFloor T.i_NoFloor_NoRoll) eva_nil))))) ?_; intro σ H Z
      refine w_setF (i := 4) sc_law_told.nd rfl (Or.inl rfl) Z (ev_bin (ev_nm 4 rfl) (ev_lst (eva_cons (ev_isx (i := 5) rfl T.n_isinstance rfl T.m_NoWay rfl (Or.inl rfl) rfl T.e_NoFloor T.i_NoFloor_NoWay) (eva_cons (ev_isxT (i := 5) rfl T.n_isinstance rfl T.n_ValueError My.boot_ValueError rfl (Or.inl rfl) rfl T.e_NoFloor T.i_NoFloor_ValueError) eva_nil))) (hs := (by walk_at "side"))) ?_; intro σ H Z
      refine W.nil ?_
      have Z := Z.unset 5
      refine w_ret Z q (ev_tup (eva_cons (ev_nm 3 rfl) (eva_cons (ev_nm 4 rfl) eva_nil))) ?_
      rfl
    | isNoCell =>
      cases hCx
      refine ⟨_, T.m_DieError, T.t_NoCell, fun xa σ H Z => ?_⟩
      refine w_setF (i := 4) sc_law_told.nd rfl (Or.inl rfl) Z (ev_lst (eva_cons (ev_isx (i := 5) rfl T.n_isinstance rfl T.m_NoFloor rfl (Or.inl rfl) rfl T.e_NoCell T.i_NoCell_NoFloor) (eva_cons (ev_isx (i := 5) rfl T.n_isinstance rfl T.m_NoCell rfl (Or.inl rfl) rfl T.e_NoCell T.i_NoCell_NoCell) (eva_cons (ev_isx (i := 5) rfl T.n_isinstance rfl T.m_NoLie rfl (Or.inl rfl) rfl T.e_NoCell T.i_NoCell_NoLie) (eva_cons (ev_isx (i := 5) rfl T.n_isinstance rfl T.m_NoRoll rfl (Or.inl rfl) rfl T.e_NoCell T.i_NoCell_NoRoll) eva_nil))))) ?_; intro σ H Z
      refine w_setF (i := 4) sc_law_told.nd rfl (Or.inl rfl) Z (ev_bin (ev_nm 4 rfl) (ev_lst (eva_cons (ev_isx (i := 5) rfl T.n_isinstance rfl T.m_NoWay rfl (Or.inl rfl) rfl T.e_NoCell T.i_NoCell_NoWay) (eva_cons (ev_isxT (i := 5) rfl T.n_isinstance rfl T.n_ValueError My.boot_ValueError rfl (Or.inl rfl) rfl T.e_NoCell T.i_NoCell_ValueError) eva_nil))) (hs := (by walk_at "side"))) ?_; intro σ H Z
      refine W.nil ?_
      have Z := Z.unset 5
      refine w_ret Z q (ev_tup (eva_cons (ev_nm 3 rfl) (eva_cons (ev_nm 4 rfl) eva_nil))) ?_
      rfl
end
end D06


set_option Elab.async false
set_option linter.all false
set_option maxRecDepth 100000
set_option maxHeartbeats 4000000
namespace D06
open PySem L2 Die
section
variable {P : Program} {w : World} {K : PySem.W.Frag} {mg : Str → Option Value} {base : Heap} {a : Adr}
theorem lies_at (c : Int) : Die.lies.getD (c % 24).toNat default ∈ Die.lies := by
  have hlt : (c % 24).toNat < Die.lies.length := by rw [lies_len]; lia
  rw [List.getD_eq_getElem?_getD, List.getElem?_eq_getElem hlt]
  exact List.getElem_mem hlt
theorem at_mem {ps : List Pl} (h : 0 < ps.length) (c : Int) : ps.getD (c % (ps.length : Int)).toNat default ∈ ps ∧ 0 ≤ c % (ps.length : Int) ∧ c % (ps.length : Int) < (ps.length : Int) := by
  have a1 := Int.emod_nonneg c (show (ps.length : Int) ≠ 0 by lia)
  have a2 := Int.emod_lt_of_pos c (show 0 < (ps.length : Int) by lia)
  refine ⟨?_, a1, a2⟩
  rw [List.getD_eq_getElem?_getD, List.getElem?_eq_getElem (by lia)]
  exact List.getElem_mem _
theorem take2 {fl : Fl} (h : LFl 8 fl) : LFl 8 (fl.take (2 : Int).toNat) := by
  have n1 := h.n1
  have hw : width (fl.take (2 : Int).toNat) = width fl := by
    cases fl with
    | nil => simp at n1
    | cons r t => rfl
  refine ⟨?_, ?_, by rw [hw]; exact h.w1, by rw [hw]; exact h.w8, fun r hr => by rw [hw]; exact h.rows r (List.mem_of_mem_take hr)⟩
  · rw [List.length_take]; show 1 ≤ min 2 fl.length; lia
  · rw [List.length_take]; have := h.n8; lia
theorem steady_snoc (fl : Fl) (s0 : Std) (ps : List Pl) (j : Nat) {y : Pl} (h : ps[j]? = some y) : steadyTo fl s0 (ps.take (j + 1)) = steadyTo fl s0 (ps.take j) ++ (if steadyB fl s0 y = true then [y] else []) := by
  unfold steadyTo
  rw [List.take_add_one, h, List.filter_append]
  cases hq : steadyB fl s0 y <;> simp [hq]
theorem c_law (T : Txt w K mg a) {ns : List Int} (hns : ns.length ≤ 63) : CD P w K mg base 8 a.f_law a.d_law ["script"] [.list (List.map PyData.int ns)] (.ok (.bool true)) := by
  refine T.A_law.F.okC sc_law rfl (fun cdv A outer s H0 σ Q E hr Z q => ?_)
  have e0 : (PyData.list []).eqv (PyData.list []) = true := eqv_all eqv_int ([] : List Int) []
  have tail : ∀ (fl : Fl) (kd : Int) (σ : St) (H' : Hp), LFl 8 fl →
      Sta K H0 H' σ [some (.d (.list (List.map PyData.int ns))), some (.d (.int kd)), some (.d (flD fl)), none, none, none, none, none, none, none, none, none, none, none, none] [] → W (cxOf (CXE P w) P w K mg base ["script", "kind", "floor", "cells", "cell", "stand", "due", "handed", "found", "place", "rows", "told", "steady", "one", "tops"] "law" (defScope s_law) a.f_law cdv A outer s H0 E) { nx := fun _ H' => Q .non H', rt := Q } ((defBody s_law).drop 3) σ H' := by
    intro fl kd σ H hfl Z
    have hf := hfl.isFloor (by decide)
    have hb := hfl.flB (by decide)
    have hasc : ∀ l ∈ fl, ∀ c ∈ l, c < 128 := fun l hl => (hb.row l hl).2
    have n8 := hfl.n8
    refine w_set (i := 3) sc_law.nd rfl (Or.inl rfl) Z (ev_call (c_law_cells (P := P) (w := w) (base := base) T hfl) (hr.mono (by decide)) rfl T.A__law_cells.m T.A__law_cells.k T.A__law_cells.b (eva_cons (ev_nm 2 rfl) eva_nil)) ?_; intro σ H Z
    have ec : PyData.eqv (.list (List.map plD (cellsOf fl))) (.list []) = decide (cellsOf fl = []) := eqv_all eqv_pl (cellsOf fl) []
    refine w_if Z (evt_cmp hr.units (ev_nm 3 rfl) (ev_lst eva_nil) (hs := (by walk_at "side"))) (fun hc H Z => ?_) (fun hc H Z => ?_)
    · refine w_ret Z q ev_bl ?_
      rfl
    refine W.nil ?_
    rw [ec] at hc
    have hne := of_decide_eq_false hc
    have hl0 : 0 < (cellsOf fl).length := List.length_pos_iff.mpr hne
    refine w_set (i := 4) sc_law.nd rfl (Or.inl rfl) Z (ev_call (c_law_cell_at (P := P) (w := w) (base := base) T) (hr.mono (by decide)) rfl T.A__law_cell_at.m T.A__law_cell_at.k T.A__law_cell_at.b (eva_cons (ev_nm 0 rfl) (eva_cons ev_int eva_nil))) ?_; intro σ H Z
    generalize hc2 : ns.getD (2 : Int).toNat 0 = c at Z
    obtain ⟨m1, i1, j1⟩ := at_mem hl0 c
    obtain ⟨m2, i2, j2⟩ := at_mem hl0 (c / 16)
    refine w_set (i := 5) sc_law.nd rfl (Or.inl rfl) Z (ev_tup (eva_cons (ev_ix (ev_nm 3 rfl) (ev_bin (ev_nm 4 rfl) (ev_callB rfl hr.units rfl T.n_len PySem.boot_len (eva_cons (ev_nm 3 rfl) eva_nil) (hs := (by walk_at "side"))) (hs := (by lia))) (hs := ⟨i1, j1⟩)) (eva_cons (ev_ix (ev_call0 (c_law_lies (P := P) (w := w) (base := base) T) (hr.mono (by decide)) rfl T.A__law_lies.m T.A__law_lies.k T.A__law_lies.b) (ev_bin (ev_call (c_law_cell_at (P := P) (w := w) (base := base) T) (hr.mono (by decide)) rfl T.A__law_cell_at.m T.A__law_cell_at.k T.A__law_cell_at.b (eva_cons (ev_nm 0 rfl) (eva_cons ev_int eva_nil))) ev_int (hs := (by decide))) (hs := ⟨by lia, by rw [lies_len]; lia⟩)) eva_nil))) ?_; intro σ H Z
    have lt := lies_at (ns.getD (3 : Int).toNat 0)
    generalize hs0 : (((cellsOf fl).getD (c % ((cellsOf fl).length : Int)).toNat default, Die.lies.getD (ns.getD (3 : Int).toNat 0 % 24).toNat default) : Std) = s0
    have on : On fl s0 := by
      rw [← hs0]
      obtain ⟨h3, _, hl⟩ := lies_ok _ lt
      exact ⟨(mem_cells hfl _).mp m1, h3, hl⟩
    have Z : Sta K H0 H σ [some (.d (.list (List.map PyData.int ns))), some (.d (.int kd)), some (.d (flD fl)), some (.d (.list (List.map plD (cellsOf fl)))), some (.d (.int c)), some (.d (stD s0)), none, none, none, none, none, none, none, none, none] [] := by rw [← hs0]; exact Z
    clear hs0
    have sb : StB s0 := ⟨on.smallP hb, on.len, lie_small on.lie⟩
    have F := rows_found hf on
    have G := far_found hf on
    have fl1536 := F.len
    have gl1536 := G.len
    refine w_set (i := 6) sc_law.nd rfl (Or.inl rfl) Z (ev_call (c_law_far (P := P) (w := w) (base := base) T hfl on) (hr.mono (by decide)) rfl T.A__law_far.m T.A__law_far.k T.A__law_far.b (eva_cons (ev_nm 2 rfl) (eva_cons (ev_nm 5 rfl) eva_nil))) ?_; intro σ H Z
    refine w_set (i := 7) sc_law.nd rfl (Or.inl rfl) Z (ev_callTy rfl hr.units rfl T.n_list My.boot_list (eva_cons (ev_nm 2 rfl) eva_nil) (hs := (by walk_at "side"))) ?_; intro σ H Z
    have hcome : Res.ok (.dict (encF (distOf fl s0))) = comeR a fl s0 := by unfold comeR floorR standR; rw [hf, on.cell, on.lie]; rfl
    have hdf : eqvD (encF (distOf fl s0)) (encF (farOf fl s0)) = true := dist_far hf on
    have dl : (distOf fl s0).length ≤ 1536 := by unfold distOf; rw [List.length_map]; exact fl1536
    have dnd : ((distOf fl s0).map (·.1)).Nodup := by unfold distOf; rw [List.map_map]; exact F.nd
    have hat : ∀ z ∈ distOf fl s0, dAt (encF (distOf fl s0)) (stD z.1) = some (.int z.2) := fun z hz => by rw [encF_at, lookP_of_mem dnd (b := z.2) hz]; rfl
    refine w_ownD (i := 8) sc_law.nd rfl (Or.inr rfl) Z (ev_call (c_come_to (P := P) (w := w) (base := base) T hcome hb sb) (hr.mono (by decide)) rfl T.A_come_to.m T.A_come_to.k T.A_come_to.b (eva_cons (ev_nm 7 rfl) (eva_cons (ev_nm 5 rfl) eva_nil))) ?_; intro a1 σ H Z
    refine w_if Z (EvW.t (evw_or (evt_not (evt_val (ev_isi rfl T.n_isinstance rfl T.n_dict My.boot_dict (ev_nm 8 rfl) (by first | rfl | kernel_rfl)))) (fun hc => (evw_or (evt_cmp hr.units (ev_nm 8 rfl) (ev_nm 6 rfl) (hs := (by walk_at "side"))) (fun hc => (evw_or1 (evt_cmp hr.units (ev_nm 7 rfl) (ev_nm 2 rfl) (hs := ⟨hasc, hasc⟩)))))))) (fun hc H Z => ?_) (fun hc H Z => ?_)
    · rw [hdf] at hc
      simp at hc
    refine W.nil ?_
    refine w_if Z (evt_not (evt_val (ev_callB rfl hr.units rfl T.n_all My.boot_all (eva_cons (ev_comp0  ["script", "kind", "floor", "cells", "cell", "stand", "due", "handed", "found", "place", "rows", "told", "steady", "one", "tops"] s_law ["one", "found"] [none, some 8] rfl rfl rfl (evi_val (ev_as (d' := .list (List.map (fun z : Std × Int => stD z.1) (distOf fl s0))) (ev_callTy rfl hr.units rfl T.n_list My.boot_list (eva_cons (ev_nm 8 rfl) eva_nil) (hs := (by walk_at "side"))) (by rw [List.map_map]; rfl))) (fun _ _ _ _ => pg_name (i := 0) (show (["one", "found"] : List Str).Nodup by decide +kernel) rfl (Or.inl rfl)) (fun _ _ _ _ z hz => (ev_call (c_law_whole (P := P) (w := w) (base := base) T) (hr.mono (by decide)) rfl T.A__law_whole.m T.A__law_whole.k T.A__law_whole.b (eva_cons (ev_ixd (ma := .any) hr.units (ev_nm 1 rfl) (ev_nm 0 rfl) (hs := (hat z hz))) eva_nil))) (hlen := (by lia))) eva_nil) (hs := (by walk_at "side"))))) (fun hc H Z => ?_) (fun hc H Z => ?_)
    · simp at hc
    refine W.nil ?_
    refine w_clearD (i := 8) rfl (Or.inr (Or.inl rfl)) rfl rfl Z (fun H Z => ?_)
    refine w_if Z (evt_cmp hr.units (ev_call (c_come_to (P := P) (w := w) (base := base) T hcome hb sb) (hr.mono (by decide)) rfl T.A_come_to.m T.A_come_to.k T.A_come_to.b (eva_cons (ev_nm 7 rfl) (eva_cons (ev_nm 5 rfl) eva_nil))) (ev_nm 6 rfl) (hs := (by walk_at "side"))) (fun hc H Z => ?_) (fun hc H Z => ?_)
    · rw [hdf] at hc
      cases hc
    refine W.nil ?_
    refine w_set (i := 9) sc_law.nd rfl (Or.inr rfl) Z (ev_ix (ev_nm 3 rfl) (ev_bin (ev_bin (ev_nm 4 rfl) ev_int (hs := ⟨by decide, by decide⟩)) (ev_callB rfl hr.units rfl T.n_len PySem.boot_len (eva_cons (ev_nm 3 rfl) eva_nil) (hs := (by walk_at "side"))) (hs := (by lia))) (hs := ⟨i2, j2⟩)) ?_; intro σ H Z
    have hpc := (mem_cells hfl _).mp m2
    generalize (cellsOf fl).getD (c / 16 % ((cellsOf fl).length : Int)).toNat default = p at Z hpc
    have hps : smallP p := by have := cell_small hb hpc; unfold smallP; lia
    have ful := farU_len hf on p
    refine w_set (i := 10) sc_law.nd rfl (Or.inl rfl) Z (ev_callB rfl hr.units rfl T.n_sorted PyProof.Rows.boot_sorted (eva_cons (ev_as (d' := .list (List.map lieD (farU fl s0 p))) (ev_comp  ["script", "kind", "floor", "cells", "cell", "stand", "due", "handed", "found", "place", "rows", "told", "steady", "one", "tops"] s_law ["one", "place"] [none, some 9] rfl rfl rfl (evi_val (ev_as (d' := .list (List.map (fun z : Std × Int => stD z.1) (farOf fl s0))) (ev_callTy rfl hr.units rfl T.n_list My.boot_list (eva_cons (ev_nm 6 rfl) eva_nil) (hs := (by walk_at "side"))) (by rw [List.map_map]; rfl))) (fun _ _ _ _ => pg_name (i := 0) (show (["one", "place"] : List Str).Nodup by decide +kernel) rfl (Or.inl rfl)) (fun _ _ _ _ z hz => evif_one (evt_cmp hr.units (ev_ix (ev_nm 0 rfl) ev_int (hs := (by walk_at "side"))) (ev_nm 1 rfl) (hs := (by walk_at "side")))) (fun _ _ _ _ z hz hg => (ev_ix (ev_nm 0 rfl) ev_int (hs := (by walk_at "side")))) (hlen := (by lia))) (by unfold farU; rw [List.map_map]; rfl)) eva_nil) (hs := ⟨by lia, farU_ne hf on p⟩)) ?_; intro σ H Z
    rw [farU_sort hf on p] at Z
    have Z := (Z.forget 8).bares rfl
    have hen : Res.ok (.list (List.map lieD (endsOf fl s0 p))) = endsR a fl s0 p := by unfold endsR floorR standR placeR; rw [hf, on.cell, on.lie, hpc]; rfl
    have el : (endsOf fl s0 p).length ≤ 24 := by unfold endsOf; rw [(sortB_perm intItem _).length_eq]; exact endsU_len hf on p
    have t1 : Told a (.ok (.list (List.map lieD (endsOf fl s0 p)))) _ := .ok
    have e1 := hen
    have Zo := Z
    refine w_setX (i := 11) sc_law.nd rfl (Or.inl rfl) Z (ev_call (c_law_told (P := P) (w := w) (base := base) T e1 t1 hb sb hps) (hr.mono (by decide)) rfl T.A__law_told.m T.A__law_told.k T.A__law_told.b (eva_cons (ev_nm 7 rfl) (eva_cons (ev_nm 5 rfl) (eva_cons (ev_nm 9 rfl) eva_nil)))) ?_; intro v1 H1 s1 r1 Z
    refine w_if Z (EvW.t (evw_or (evt_cmp hr.units (ev_ix (ev_nm 11 rfl) ev_int (hs := (by walk_at "side"))) (ev_lst eva_nil) (hs := (by walk_at "side"))) (fun hc => (evw_or (evt_not (evt_val (ev_isi rfl T.n_isinstance rfl T.n_list My.boot_list (ev_ix (ev_nm 11 rfl) ev_int (hs := (by walk_at "side"))) (by first | rfl | kernel_rfl)))) (fun hc => (evw_or1 (evt_cmp hr.units (ev_ix (ev_nm 11 rfl) ev_int (hs := (by walk_at "side"))) (ev_nm 10 rfl) (hs := (by walk_at "side"))))))))) (fun hc H Z => ?_) (fun hc H Z => ?_)
    · simp [e0] at hc
    refine W.nil ?_
    refine w_appX (i := 11) rfl (Or.inl rfl) Zo s1 r1 (Nat.le_of_ble_eq_true rfl) Z (ev_tup (eva_cons ev_int (eva_cons ev_int (eva_cons ev_int eva_nil)))) (by rw [List.length_map]; lia) (fun H Z => ?_)
    clear Zo s1 r1
    refine w_if Z (evt_cmp hr.units (ev_call (c_ends (P := P) (w := w) (base := base) T hen hb sb hps) (hr.mono (by decide)) rfl T.A_ends.m T.A_ends.k T.A_ends.b (eva_cons (ev_nm 7 rfl) (eva_cons (ev_nm 5 rfl) (eva_cons (ev_nm 9 rfl) eva_nil)))) (ev_nm 10 rfl) (hs := (by walk_at "side"))) (fun hc H Z => ?_) (fun hc H Z => ?_)
    · simp at hc
    refine W.nil ?_
    have hout : isCell fl (fl.length : Int) 0 = false := by
      unfold isCell
      rw [if_neg (by lia)]
    have hpo : smallP ((fl.length : Int), (0 : Int)) := by unfold smallP; simp only; lia
    have e1 : Res.er a.c_NoCell = endsR a fl s0 ((fl.length : Int), (0 : Int)) := by
      unfold endsR floorR standR placeR
      rw [hf, on.cell, on.lie]
      show _ = if isCell fl (fl.length : Int) 0 = true then _ else _
      rw [hout]
      rfl
    have t1 : Told a (.er a.c_NoCell) _ := .isNoCell
    refine w_if Z (evt_not (evt_val (ev_call (c_law_refused (P := P) (w := w) (base := base) T (by decide)) (hr.mono (by decide)) rfl T.A__law_refused.m T.A__law_refused.k T.A__law_refused.b (eva_cons (ev_ix (ev_call (c_law_told (P := P) (w := w) (base := base) T (p := ((fl.length : Int), (0 : Int))) e1 t1 hb sb hpo) (hr.mono (by decide)) rfl T.A__law_told.m T.A__law_told.k T.A__law_told.b (eva_cons (ev_nm 7 rfl) (eva_cons (ev_nm 5 rfl) (eva_cons (ev_tup (eva_cons (ev_callB rfl hr.units rfl T.n_len PySem.boot_len (eva_cons (ev_nm 2 rfl) eva_nil) (hs := (by walk_at "side"))) (eva_cons ev_int eva_nil))) eva_nil)))) ev_int (hs := (by walk_at "side"))) (eva_cons ev_int eva_nil))))) (fun hc H Z => ?_) (fun hc H Z => ?_)
    · simp at hc
    refine W.nil ?_
    refine w_own (i := 12) sc_law.nd rfl (Or.inl rfl) Z (ev_lst eva_nil) ?_; intro a1 σ H Z
    refine w_for (i := 13) (fun j env own => ∃ a0 v13 v14, own = [(a0, .l (List.map plD (steadyTo fl s0 ((cellsOf fl).take j))))] ∧ env = [some (.d (.list (List.map PyData.int ns))), some (.d (.int kd)), some (.d (flD fl)), some (.d (.list (List.map plD (cellsOf fl)))), some (.d (.int c)), some (.d (stD s0)), some (.d (.dict (encF (farOf fl s0)))), some (.d (flD fl)), none, some (.d (plD p)), some (.d (.list (List.map lieD (endsOf fl s0 p)))), none, some (.o 0), v13, v14]) ownE rfl sc_law.nd rfl (Or.inr rfl) Z (evi_val (ev_nm 3 rfl)) ?_ (fun B hB j y env own σ H hj hp Z => ?_) (fun env own σ H hp Z => ?_)
    · exact ⟨a1, none, none, rfl, rfl⟩
    · obtain ⟨a0, v13, v14, rfl, rfl⟩ := hp
      have hjl : j < (cellsOf fl).length := (List.getElem?_eq_some_iff.mp hj).1
      have cl := cellsTo_len fl fl.length
      have cl2 : fl.length * width fl ≤ 8 * 8 := Nat.mul_le_mul n8 hfl.w8
      have cl3 : (cellsOf fl).length ≤ 64 := Nat.le_trans cl cl2
      have sl : (steadyTo fl s0 ((cellsOf fl).take j)).length ≤ 64 := by
        unfold steadyTo
        exact Nat.le_trans (List.length_filter_le _ _) (by rw [List.length_take]; lia)
      refine (w_setComp (i := 14) sc_law.nd rfl (Or.inl rfl) Z ["script", "kind", "floor", "cells", "cell", "stand", "due", "handed", "found", "place", "rows", "told", "steady", "one", "tops"] s_law ["here", "one"] [none, some 13] rfl rfl rfl (evi_val (ev_as (d' := .list (List.map (fun z : Std × Int => stD z.1) (farOf fl s0))) (ev_callTy rfl hr.units rfl T.n_list My.boot_list (eva_cons (ev_nm 6 rfl) eva_nil) (hs := (by walk_at "side"))) (by rw [List.map_map]; rfl))) (fun _ _ _ _ => pg_name (i := 0) (show (["here", "one"] : List Str).Nodup by decide +kernel) rfl (Or.inl rfl)) (fun _ _ _ _ z hz => evif_one (evt_cmp hr.units (ev_ix (ev_nm 0 rfl) ev_int (hs := (by walk_at "side"))) (ev_nm 1 rfl) (hs := (by walk_at "side")))) (fun _ _ _ _ z hz hg => (ev_ix (ev_ix (ev_nm 0 rfl) ev_int (hs := (by walk_at "side"))) ev_int (hs := ⟨by decide, by have := (G.on z.1 (List.mem_map.mpr ⟨z, hz, rfl⟩)).len; lia⟩))) ?_ (hlen := (by lia))); intro σ H Z
      have Z : Sta K B H σ [some (.d (.list (List.map PyData.int ns))), some (.d (.int kd)), some (.d (flD fl)), some (.d (.list (List.map plD (cellsOf fl)))), some (.d (.int c)), some (.d (stD s0)), some (.d (.dict (encF (farOf fl s0)))), some (.d (flD fl)), none, some (.d (plD p)), some (.d (.list (List.map lieD (endsOf fl s0 p)))), none, some (.o 0), some (.d (plD y)), some (.f (.list (List.map PyData.int (farTops fl s0 y))))] [(a0, .l (List.map plD (steadyTo fl s0 ((cellsOf fl).take j))))] := by
        unfold farTops
        rw [List.map_map]
        exact Z
      have et : PyData.eqv (.list (List.map PyData.int (farTops fl s0 y))) (.list []) = decide (farTops fl s0 y = []) := eqv_all eqv_int (farTops fl s0 y) []
      refine w_if Z (EvW.t (evw_and (evt_cmp hr.units (ev_nm 14 rfl) (ev_lst eva_nil) (hs := (by walk_at "side"))) (fun hc => (evw_and1 (evt_cmp hr.units (ev_callB rfl hr.units rfl T.n_min My.boot_min (eva_cons (ev_nm 14 rfl) eva_nil) (hs := (List.length_pos_iff.mpr (of_decide_eq_false (et ▸ not_t hc))))) (ev_callB rfl hr.units rfl T.n_max My.boot_max (eva_cons (ev_nm 14 rfl) eva_nil) (hs := (List.length_pos_iff.mpr (of_decide_eq_false (et ▸ not_t hc))))) (hs := (by walk_at "side"))))))) (fun hc H Z => ?_) (fun hc H Z => ?_)
      · rw [et, Bool.and_eq_true] at hc
        have hst : steadyB fl s0 y = true := by
          unfold steadyB
          rw [Bool.and_eq_true]
          refine ⟨?_, hc.2⟩
          have := of_decide_eq_false (not_t hc.1)
          cases hq : farTops fl s0 y with
          | nil => exact absurd hq this
          | cons _ _ => rfl
        refine w_append (i := 12) rfl (Or.inl rfl) rfl rfl Z (ev_nm 13 rfl) (fun H Z => ?_) (hlen := (by rw [List.length_map]; lia))
        refine W.nil (W.nil ⟨_, _, ⟨a0, _, _, ?_, rfl⟩, Z⟩)
        rw [steady_snoc fl s0 _ j hj, if_pos hst, List.map_append]
        rfl
      · have hst : steadyB fl s0 y = false := by
          unfold steadyB
          cases hq : farTops fl s0 y with
          | nil => rfl
          | cons x r =>
            rw [hq] at hc et
            rw [et] at hc
            have hc : (!decide (x :: r = []) && decide (minI (x :: r) = maxI (x :: r))) = false := hc
            rw [decide_eq_false (by simp)] at hc
            exact hc
        refine W.nil (W.nil ⟨_, _, ⟨a0, _, _, ?_, rfl⟩, Z⟩)
        rw [steady_snoc fl s0 _ j hj, hst]
        simp
    · obtain ⟨a0, v13, v14, rfl, rfl⟩ := hp
      rw [List.take_length] at Z
      have hfs := firm_steady hfl hf on
      have hfr : Res.ok (.list (List.map lieD (firmS fl s0))) = firmR a fl s0 := by unfold firmR floorR standR; rw [hf, on.cell, on.lie]; rfl
      have flen : (firmS fl s0).length ≤ 64 := by
        unfold firmS firmL
        rw [(sortB_perm intItem _).length_eq, List.length_map]
        have := firm_few hf on
        lia
      refine w_own (i := 11) sc_law.nd rfl (Or.inl rfl) Z (ev_call (c_firm (P := P) (w := w) (base := base) T hfr hb sb) (hr.mono (by decide)) rfl T.A_firm.m T.A_firm.k T.A_firm.b (eva_cons (ev_nm 7 rfl) (eva_cons (ev_nm 5 rfl) eva_nil))) ?_; intro a1 σ H Z
      refine w_if Z (EvW.t (evw_or (evt_not (evt_val (ev_isi rfl T.n_isinstance rfl T.n_list My.boot_list (ev_nm 11 rfl) (by first | rfl | kernel_rfl)))) (fun hc => (evw_or (evt_cmp hr.units (ev_nm 11 rfl) (ev_as (d' := .list (List.map lieD ((steadyTo fl s0 (cellsOf fl)).map pl2))) (ev_nm 12 rfl) (by rw [List.map_map]; rfl)) (hs := (by walk_at "side"))) (fun hc => (evw_or1 (evt_cmp hr.units (ev_nm 7 rfl) (ev_nm 2 rfl) (hs := ⟨hasc, hasc⟩)))))))) (fun hc H Z => ?_) (fun hc H Z => ?_)
      · rw [hfs] at hc
        simp at hc
      refine W.nil ?_
      refine w_append (i := 11) rfl (Or.inl rfl) rfl rfl Z (ev_tup (eva_cons ev_int (eva_cons ev_int eva_nil))) (fun H Z => ?_) (hlen := (by rw [List.length_map]; lia))
      refine w_ret Z q (ev_cmp hr.units (ev_call (c_firm (P := P) (w := w) (base := base) T hfr hb sb) (hr.mono (by decide)) rfl T.A_firm.m T.A_firm.k T.A_firm.b (eva_cons (ev_nm 7 rfl) (eva_cons (ev_nm 5 rfl) eva_nil))) (ev_as (d' := .list (List.map lieD ((steadyTo fl s0 (cellsOf fl)).map pl2))) (ev_nm 12 rfl) (by rw [List.map_map]; rfl)) (hs := (by walk_at "side"))) ?_
      rw [hfs]
      simp
  refine w_set (i := 1) sc_law.nd rfl (Or.inl rfl) Z (ev_bin (ev_call (c_law_cell_at (P := P) (w := w) (base := base) T) (hr.mono (by decide)) rfl T.A__law_cell_at.m T.A__law_cell_at.k T.A__law_cell_at.b (eva_cons (ev_nm 0 rfl) (eva_cons ev_int eva_nil))) ev_int (hs := (by decide))) ?_; intro σ H Z
  generalize hkd : ns.getD (4 : Int).toNat 0 % 5 = kd at Z
  have hk5 : kd = 0 ∨ kd = 1 ∨ kd = 2 ∨ kd = 3 ∨ kd = 4 := by lia
  have hm : 1 ≤ ([4, 8, 8, 4, 4] : List Int).getD kd.toNat default ∧ ([4, 8, 8, 4, 4] : List Int).getD kd.toNat default ≤ 8 := by
    rcases hk5 with h | h | h | h | h <;> rw [h] <;> decide
  refine w_set (i := 2) sc_law.nd rfl (Or.inl rfl) Z (ev_call (c_law_floor (P := P) (w := w) (base := base) T (by decide) hm) (hr.mono (by decide)) rfl T.A__law_floor.m T.A__law_floor.k T.A__law_floor.b (eva_cons (ev_nm 0 rfl) (eva_cons ev_int (eva_cons (ev_ix (ev_as (d' := .list (List.map PyData.int [4, 8, 8, 4, 4])) (ev_lst (eva_cons ev_int (eva_cons ev_int (eva_cons ev_int (eva_cons ev_int (eva_cons ev_int eva_nil)))))) (by first | rfl | assumption | decide +kernel | (simp only [List.map_append, List.map_cons, List.map_nil]) | (show PyData.list _ = PyData.list (List.map _ (_ ++ _ ++ _)); rw [List.map_append, List.map_append]; rfl) | (rw [List.map_map]; rfl))) (ev_nm 1 rfl) (hs := ⟨by lia, by show _ < (5 : Int); lia⟩)) eva_nil)))) ?_; intro σ H Z
  have hfl : LFl 8 (lfloor ns 0 (([4, 8, 8, 4, 4] : List Int).getD kd.toNat default)) := lfloor_ok ns 0 hm.1 hm.2
  generalize lfloor ns 0 (([4, 8, 8, 4, 4] : List Int).getD kd.toNat default) = fl at Z hfl
  refine w_if Z (evt_cmp hr.units (ev_nm 1 rfl) ev_int (hs := (by walk_at "side"))) (fun hc H Z => ?_) (fun hc H Z => ?_)
  · refine w_set (i := 2) sc_law.nd rfl (Or.inl rfl) Z (ev_sl (ev_nm 2 rfl) evo_none (evo_some ev_int) (hs := (by decide))) ?_; intro σ H Z
    refine W.nil ?_
    exact tail _ kd _ _ (take2 hfl) Z
  · refine W.nil ?_
    exact tail fl kd _ _ hfl Z
theorem law_binds (T : Txt w K mg a) : ∀ (s : Shared) (u : Value), BindsTo s a.d_law ⟨[u], []⟩ [("script", u)] := fun s u => by
  obtain ⟨oc, od, kV, doc, pm, an, cdv, ct, osl, e, _, _⟩ := T.A_law.F.ex
  rw [e]
  exact .of_eq rfl
end
end D06


set_option Elab.async false
set_option linter.all false
set_option maxRecDepth 100000
set_option maxHeartbeats 4000000
namespace L2
@[elab_as_elim] theorem lenN0 {α : Type} {Q : List α → Prop} {us : List α} (h : us.length = 0) (f : Q []) : Q us := by
  match us, h with | [], _ => exact f
@[elab_as_elim] theorem lenN1 {α : Type} {Q : List α → Prop} {us : List α} (h : us.length = 1) (f : ∀ a0 : α, Q [a0]) : Q us := by
  match us, h with | [a0], _ => exact f _
@[elab_as_elim] theorem lenN2 {α : Type} {Q : List α → Prop} {us : List α} (h : us.length = 2) (f : ∀ a0 a1 : α, Q [a0, a1]) : Q us := by
  match us, h with | [a0, a1], _ => exact f _ _
@[elab_as_elim] theorem lenN3 {α : Type} {Q : List α → Prop} {us : List α} (h : us.length = 3) (f : ∀ a0 a1 a2 : α, Q [a0, a1, a2]) : Q us := by
  match us, h with | [a0, a1, a2], _ => exact f _ _ _
end L2
namespace D06
open PySem L2 Die
theorem txt_mk {w : World} {K : PySem.W.Frag} {h : Heap} {mg : Str → Option Value} (X : K.In h) (G : h.Ns mainGlobals mg)
    {f1 : Addr} {od1 an1 : Option Addr} {sl1 : Array (Option Value)} {oc1 kV1 dc1 pm1 cd1 ct1 : Value}
    {f2 : Addr} {od2 an2 : Option Addr} {sl2 : Array (Option Value)} {oc2 kV2 dc2 pm2 cd2 ct2 : Value}
    {f3 : Addr} {od3 an3 : Option Addr} {sl3 : Array (Option Value)} {oc3 kV3 dc3 pm3 cd3 ct3 : Value}
    {f4 : Addr} {od4 an4 : Option Addr} {sl4 : Array (Option Value)} {oc4 kV4 dc4 pm4 cd4 ct4 : Value}
    {f5 : Addr} {od5 an5 : Option Addr} {sl5 : Array (Option Value)} {oc5 kV5 dc5 pm5 cd5 ct5 : Value}
    {f6 : Addr} {od6 an6 : Option Addr} {sl6 : Array (Option Value)} {oc6 kV6 dc6 pm6 cd6 ct6 : Value}
    {f7 : Addr} {od7 an7 : Option Addr} {sl7 : Array (Option Value)} {oc7 kV7 dc7 pm7 cd7 ct7 : Value}
    {f8 : Addr} {od8 an8 : Option Addr} {sl8 : Array (Option Value)} {oc8 kV8 dc8 pm8 cd8 ct8 : Value}
    {f9 : Addr} {od9 an9 : Option Addr} {sl9 : Array (Option Value)} {oc9 kV9 dc9 pm9 cd9 ct9 : Value}
    {f10 : Addr} {od10 an10 : Option Addr} {sl10 : Array (Option Value)} {oc10 kV10 dc10 pm10 cd10 ct10 : Value}
    {f11 : Addr} {od11 an11 : Option Addr} {sl11 : Array (Option Value)} {oc11 kV11 dc11 pm11 cd11 ct11 : Value}
    {f12 : Addr} {od12 an12 : Option Addr} {sl12 : Array (Option Value)} {oc12 kV12 dc12 pm12 cd12 ct12 : Value}
    {f13 : Addr} {od13 an13 : Option Addr} {sl13 : Array (Option Value)} {oc13 kV13 dc13 pm13 cd13 ct13 : Value}
    {f14 : Addr} {od14 an14 : Option Addr} {sl14 : Array (Option Value)} {oc14 kV14 dc14 pm14 cd14 ct14 : Value}
    {f15 : Addr} {od15 an15 : Option Addr} {sl15 : Array (Option Value)} {oc15 kV15 dc15 pm15 cd15 ct15 : Value}
    {f16 : Addr} {od16 an16 : Option Addr} {sl16 : Array (Option Value)} {oc16 kV16 dc16 pm16 cd16 ct16 : Value}
    {f17 : Addr} {od17 an17 : Option Addr} {sl17 : Array (Option Value)} {oc17 kV17 dc17 pm17 cd17 ct17 : Value}
    {f18 : Addr} {od18 an18 : Option Addr} {sl18 : Array (Option Value)} {oc18 kV18 dc18 pm18 cd18 ct18 : Value}
    {f19 : Addr} {od19 an19 : Option Addr} {sl19 : Array (Option Value)} {oc19 kV19 dc19 pm19 cd19 ct19 : Value}
    {f20 : Addr} {od20 an20 : Option Addr} {sl20 : Array (Option Value)} {oc20 kV20 dc20 pm20 cd20 ct20 : Value}
    {f21 : Addr} {od21 an21 : Option Addr} {sl21 : Array (Option Value)} {oc21 kV21 dc21 pm21 cd21 ct21 : Value}
    {f22 : Addr} {od22 an22 : Option Addr} {sl22 : Array (Option Value)} {oc22 kV22 dc22 pm22 cd22 ct22 : Value}
    {f23 : Addr} {od23 an23 : Option Addr} {sl23 : Array (Option Value)} {oc23 kV23 dc23 pm23 cd23 ct23 : Value}
    {f24 : Addr} {od24 an24 : Option Addr} {sl24 : Array (Option Value)} {oc24 kV24 dc24 pm24 cd24 ct24 : Value}
    {f25 : Addr} {od25 an25 : Option Addr} {sl25 : Array (Option Value)} {oc25 kV25 dc25 pm25 cd25 ct25 : Value}
    {f26 : Addr} {od26 an26 : Option Addr} {sl26 : Array (Option Value)} {oc26 kV26 dc26 pm26 cd26 ct26 : Value}
    {f27 : Addr} {od27 an27 : Option Addr} {sl27 : Array (Option Value)} {oc27 kV27 dc27 pm27 cd27 ct27 : Value}
    {f28 : Addr} {od28 an28 : Option Addr} {sl28 : Array (Option Value)} {oc28 kV28 dc28 pm28 cd28 ct28 : Value}
    {f29 : Addr} {od29 an29 : Option Addr} {sl29 : Array (Option Value)} {oc29 kV29 dc29 pm29 cd29 ct29 : Value}
    {f30 : Addr} {od30 an30 : Option Addr} {sl30 : Array (Option Value)} {oc30 kV30 dc30 pm30 cd30 ct30 : Value}
    {f31 : Addr} {od31 an31 : Option Addr} {sl31 : Array (Option Value)} {oc31 kV31 dc31 pm31 cd31 ct31 : Value}
    {f32 : Addr} {od32 an32 : Option Addr} {sl32 : Array (Option Value)} {oc32 kV32 dc32 pm32 cd32 ct32 : Value}
    {f33 : Addr} {od33 an33 : Option Addr} {sl33 : Array (Option Value)} {oc33 kV33 dc33 pm33 cd33 ct33 : Value}
    {f34 : Addr} {od34 an34 : Option Addr} {sl34 : Array (Option Value)} {oc34 kV34 dc34 pm34 cd34 ct34 : Value}
    {f35 : Addr}
    {f36 : Addr}
    {f37 : Addr}
    {f38 : Addr}
    {f39 : Addr}
    {f40 : Addr}
    {f41 : Tok} {x41 : Str}
    {f42 : Tok} {x42 : Str}
    {f43 : Tok}
    {f44 : Addr} {ob44 : Obj}
    {h44_0 : Int} {x44_0 : Str} {t44_0 : Tok} {g44_0 : Addr} {og44_0 : Obj}
    {h44_1 : Int} {x44_1 : Str} {t44_1 : Tok} {g44_1 : Addr} {og44_1 : Obj}
    {h44_2 : Int} {x44_2 : Str} {t44_2 : Tok} {g44_2 : Addr} {og44_2 : Obj}
    {h44_3 : Int} {x44_3 : Str} {t44_3 : Tok} {g44_3 : Addr} {og44_3 : Obj}
    {ep44 : Nat}
    {f45 : Tok} {x45 : Str}
    (a1 : PySem.W.nsIn K mainGlobals "across" = some (some (.ref f1))) (l1 : K.lookup f1 = some ⟨oc1, od1, .func (PySem.W.fnOf "across" "across" (defArgs s_across) (defBody s_across) (defScope s_across) .none kV1 dc1 pm1 an1 cd1 ct1), sl1⟩) (c1 : PySem.W.codeIn K cd1 "across" = true) (k1 : PySem.W.keepIn K (.ref f1) = true)
    (a2 : PySem.W.nsIn K mainGlobals "pairs_of" = some (some (.ref f2))) (l2 : K.lookup f2 = some ⟨oc2, od2, .func (PySem.W.fnOf "pairs_of" "pairs_of" (defArgs s_pairs_of) (defBody s_pairs_of) (defScope s_pairs_of) .none kV2 dc2 pm2 an2 cd2 ct2), sl2⟩) (c2 : PySem.W.codeIn K cd2 "pairs_of" = true) (k2 : PySem.W.keepIn K (.ref f2) = true)
    (a3 : PySem.W.nsIn K mainGlobals "has_odd_high" = some (some (.ref f3))) (l3 : K.lookup f3 = some ⟨oc3, od3, .func (PySem.W.fnOf "has_odd_high" "has_odd_high" (defArgs s_has_odd_high) (defBody s_has_odd_high) (defScope s_has_odd_high) .none kV3 dc3 pm3 an3 cd3 ct3), sl3⟩) (c3 : PySem.W.codeIn K cd3 "has_odd_high" = true) (k3 : PySem.W.keepIn K (.ref f3) = true)
    (a4 : PySem.W.nsIn K mainGlobals "is_lie" = some (some (.ref f4))) (l4 : K.lookup f4 = some ⟨oc4, od4, .func (PySem.W.fnOf "is_lie" "is_lie" (defArgs s_is_lie) (defBody s_is_lie) (defScope s_is_lie) .none kV4 dc4 pm4 an4 cd4 ct4), sl4⟩) (c4 : PySem.W.codeIn K cd4 "is_lie" = true) (k4 : PySem.W.keepIn K (.ref f4) = true)
    (a5 : PySem.W.nsIn K mainGlobals "check_lie" = some (some (.ref f5))) (l5 : K.lookup f5 = some ⟨oc5, od5, .func (PySem.W.fnOf "check_lie" "check_lie" (defArgs s_check_lie) (defBody s_check_lie) (defScope s_check_lie) .none kV5 dc5 pm5 an5 cd5 ct5), sl5⟩) (c5 : PySem.W.codeIn K cd5 "check_lie" = true) (k5 : PySem.W.keepIn K (.ref f5) = true)
    (a6 : PySem.W.nsIn K mainGlobals "rolled_once" = some (some (.ref f6))) (l6 : K.lookup f6 = some ⟨oc6, od6, .func (PySem.W.fnOf "rolled_once" "rolled_once" (defArgs s_rolled_once) (defBody s_rolled_once) (defScope s_rolled_once) .none kV6 dc6 pm6 an6 cd6 ct6), sl6⟩) (c6 : PySem.W.codeIn K cd6 "rolled_once" = true) (k6 : PySem.W.keepIn K (.ref f6) = true)
    (a7 : PySem.W.nsIn K mainGlobals "is_row" = some (some (.ref f7))) (l7 : K.lookup f7 = some ⟨oc7, od7, .func (PySem.W.fnOf "is_row" "is_row" (defArgs s_is_row) (defBody s_is_row) (defScope s_is_row) .none kV7 dc7 pm7 an7 cd7 ct7), sl7⟩) (c7 : PySem.W.codeIn K cd7 "is_row" = true) (k7 : PySem.W.keepIn K (.ref f7) = true)
    (a8 : PySem.W.nsIn K mainGlobals "is_floor" = some (some (.ref f8))) (l8 : K.lookup f8 = some ⟨oc8, od8, .func (PySem.W.fnOf "is_floor" "is_floor" (defArgs s_is_floor) (defBody s_is_floor) (defScope s_is_floor) .none kV8 dc8 pm8 an8 cd8 ct8), sl8⟩) (c8 : PySem.W.codeIn K cd8 "is_floor" = true) (k8 : PySem.W.keepIn K (.ref f8) = true)
    (a9 : PySem.W.nsIn K mainGlobals "check_floor" = some (some (.ref f9))) (l9 : K.lookup f9 = some ⟨oc9, od9, .func (PySem.W.fnOf "check_floor" "check_floor" (defArgs s_check_floor) (defBody s_check_floor) (defScope s_check_floor) .none kV9 dc9 pm9 an9 cd9 ct9), sl9⟩) (c9 : PySem.W.codeIn K cd9 "check_floor" = true) (k9 : PySem.W.keepIn K (.ref f9) = true)
    (a10 : PySem.W.nsIn K mainGlobals "is_cell" = some (some (.ref f10))) (l10 : K.lookup f10 = some ⟨oc10, od10, .func (PySem.W.fnOf "is_cell" "is_cell" (defArgs s_is_cell) (defBody s_is_cell) (defScope s_is_cell) .none kV10 dc10 pm10 an10 cd10 ct10), sl10⟩) (c10 : PySem.W.codeIn K cd10 "is_cell" = true) (k10 : PySem.W.keepIn K (.ref f10) = true)
    (a11 : PySem.W.nsIn K mainGlobals "check_place" = some (some (.ref f11))) (l11 : K.lookup f11 = some ⟨oc11, od11, .func (PySem.W.fnOf "check_place" "check_place" (defArgs s_check_place) (defBody s_check_place) (defScope s_check_place) .none kV11 dc11 pm11 an11 cd11 ct11), sl11⟩) (c11 : PySem.W.codeIn K cd11 "check_place" = true) (k11 : PySem.W.keepIn K (.ref f11) = true)
    (a12 : PySem.W.nsIn K mainGlobals "check_stand" = some (some (.ref f12))) (l12 : K.lookup f12 = some ⟨oc12, od12, .func (PySem.W.fnOf "check_stand" "check_stand" (defArgs s_check_stand) (defBody s_check_stand) (defScope s_check_stand) .none kV12 dc12 pm12 an12 cd12 ct12), sl12⟩) (c12 : PySem.W.codeIn K cd12 "check_stand" = true) (k12 : PySem.W.keepIn K (.ref f12) = true)
    (a13 : PySem.W.nsIn K mainGlobals "next_place" = some (some (.ref f13))) (l13 : K.lookup f13 = some ⟨oc13, od13, .func (PySem.W.fnOf "next_place" "next_place" (defArgs s_next_place) (defBody s_next_place) (defScope s_next_place) .none kV13 dc13 pm13 an13 cd13 ct13), sl13⟩) (c13 : PySem.W.codeIn K cd13 "next_place" = true) (k13 : PySem.W.keepIn K (.ref f13) = true)
    (a14 : PySem.W.nsIn K mainGlobals "next_stand" = some (some (.ref f14))) (l14 : K.lookup f14 = some ⟨oc14, od14, .func (PySem.W.fnOf "next_stand" "next_stand" (defArgs s_next_stand) (defBody s_next_stand) (defScope s_next_stand) .none kV14 dc14 pm14 an14 cd14 ct14), sl14⟩) (c14 : PySem.W.codeIn K cd14 "next_stand" = true) (k14 : PySem.W.keepIn K (.ref f14) = true)
    (a15 : PySem.W.nsIn K mainGlobals "first_rows" = some (some (.ref f15))) (l15 : K.lookup f15 = some ⟨oc15, od15, .func (PySem.W.fnOf "first_rows" "first_rows" (defArgs s_first_rows) (defBody s_first_rows) (defScope s_first_rows) .none kV15 dc15 pm15 an15 cd15 ct15), sl15⟩) (c15 : PySem.W.codeIn K cd15 "first_rows" = true) (k15 : PySem.W.keepIn K (.ref f15) = true)
    (a16 : PySem.W.nsIn K mainGlobals "come_to" = some (some (.ref f16))) (l16 : K.lookup f16 = some ⟨oc16, od16, .func (PySem.W.fnOf "come_to" "come_to" (defArgs s_come_to) (defBody s_come_to) (defScope s_come_to) .none kV16 dc16 pm16 an16 cd16 ct16), sl16⟩) (c16 : PySem.W.codeIn K cd16 "come_to" = true) (k16 : PySem.W.keepIn K (.ref f16) = true)
    (a17 : PySem.W.nsIn K mainGlobals "ends" = some (some (.ref f17))) (l17 : K.lookup f17 = some ⟨oc17, od17, .func (PySem.W.fnOf "ends" "ends" (defArgs s_ends) (defBody s_ends) (defScope s_ends) .none kV17 dc17 pm17 an17 cd17 ct17), sl17⟩) (c17 : PySem.W.codeIn K cd17 "ends" = true) (k17 : PySem.W.keepIn K (.ref f17) = true)
    (a18 : PySem.W.nsIn K mainGlobals "tops_by_place" = some (some (.ref f18))) (l18 : K.lookup f18 = some ⟨oc18, od18, .func (PySem.W.fnOf "tops_by_place" "tops_by_place" (defArgs s_tops_by_place) (defBody s_tops_by_place) (defScope s_tops_by_place) .none kV18 dc18 pm18 an18 cd18 ct18), sl18⟩) (c18 : PySem.W.codeIn K cd18 "tops_by_place" = true) (k18 : PySem.W.keepIn K (.ref f18) = true)
    (a19 : PySem.W.nsIn K mainGlobals "firm" = some (some (.ref f19))) (l19 : K.lookup f19 = some ⟨oc19, od19, .func (PySem.W.fnOf "firm" "firm" (defArgs s_firm) (defBody s_firm) (defScope s_firm) .none kV19 dc19 pm19 an19 cd19 ct19), sl19⟩) (c19 : PySem.W.codeIn K cd19 "firm" = true) (k19 : PySem.W.keepIn K (.ref f19) = true)
    (a20 : PySem.W.nsIn K mainGlobals "_law_cell_at" = some (some (.ref f20))) (l20 : K.lookup f20 = some ⟨oc20, od20, .func (PySem.W.fnOf "_law_cell_at" "_law_cell_at" (defArgs s_law_cell_at) (defBody s_law_cell_at) (defScope s_law_cell_at) .none kV20 dc20 pm20 an20 cd20 ct20), sl20⟩) (c20 : PySem.W.codeIn K cd20 "_law_cell_at" = true) (k20 : PySem.W.keepIn K (.ref f20) = true)
    (a21 : PySem.W.nsIn K mainGlobals "_law_whole" = some (some (.ref f21))) (l21 : K.lookup f21 = some ⟨oc21, od21, .func (PySem.W.fnOf "_law_whole" "_law_whole" (defArgs s_law_whole) (defBody s_law_whole) (defScope s_law_whole) .none kV21 dc21 pm21 an21 cd21 ct21), sl21⟩) (c21 : PySem.W.codeIn K cd21 "_law_whole" = true) (k21 : PySem.W.keepIn K (.ref f21) = true)
    (a22 : PySem.W.nsIn K mainGlobals "_law_mix" = some (some (.ref f22))) (l22 : K.lookup f22 = some ⟨oc22, od22, .func (PySem.W.fnOf "_law_mix" "_law_mix" (defArgs s_law_mix) (defBody s_law_mix) (defScope s_law_mix) .none kV22 dc22 pm22 an22 cd22 ct22), sl22⟩) (c22 : PySem.W.codeIn K cd22 "_law_mix" = true) (k22 : PySem.W.keepIn K (.ref f22) = true)
    (a23 : PySem.W.nsIn K mainGlobals "_law_pairs" = some (some (.ref f23))) (l23 : K.lookup f23 = some ⟨oc23, od23, .func (PySem.W.fnOf "_law_pairs" "_law_pairs" (defArgs s_law_pairs) (defBody s_law_pairs) (defScope s_law_pairs) .none kV23 dc23 pm23 an23 cd23 ct23), sl23⟩) (c23 : PySem.W.codeIn K cd23 "_law_pairs" = true) (k23 : PySem.W.keepIn K (.ref f23) = true)
    (a24 : PySem.W.nsIn K mainGlobals "_law_odd" = some (some (.ref f24))) (l24 : K.lookup f24 = some ⟨oc24, od24, .func (PySem.W.fnOf "_law_odd" "_law_odd" (defArgs s_law_odd) (defBody s_law_odd) (defScope s_law_odd) .none kV24 dc24 pm24 an24 cd24 ct24), sl24⟩) (c24 : PySem.W.codeIn K cd24 "_law_odd" = true) (k24 : PySem.W.keepIn K (.ref f24) = true)
    (a25 : PySem.W.nsIn K mainGlobals "_law_is_lie" = some (some (.ref f25))) (l25 : K.lookup f25 = some ⟨oc25, od25, .func (PySem.W.fnOf "_law_is_lie" "_law_is_lie" (defArgs s_law_is_lie) (defBody s_law_is_lie) (defScope s_law_is_lie) .none kV25 dc25 pm25 an25 cd25 ct25), sl25⟩) (c25 : PySem.W.codeIn K cd25 "_law_is_lie" = true) (k25 : PySem.W.keepIn K (.ref f25) = true)
    (a26 : PySem.W.nsIn K mainGlobals "_law_lies" = some (some (.ref f26))) (l26 : K.lookup f26 = some ⟨oc26, od26, .func (PySem.W.fnOf "_law_lies" "_law_lies" (defArgs s_law_lies) (defBody s_law_lies) (defScope s_law_lies) .none kV26 dc26 pm26 an26 cd26 ct26), sl26⟩) (c26 : PySem.W.codeIn K cd26 "_law_lies" = true) (k26 : PySem.W.keepIn K (.ref f26) = true)
    (a27 : PySem.W.nsIn K mainGlobals "_law_roll" = some (some (.ref f27))) (l27 : K.lookup f27 = some ⟨oc27, od27, .func (PySem.W.fnOf "_law_roll" "_law_roll" (defArgs s_law_roll) (defBody s_law_roll) (defScope s_law_roll) .none kV27 dc27 pm27 an27 cd27 ct27), sl27⟩) (c27 : PySem.W.codeIn K cd27 "_law_roll" = true) (k27 : PySem.W.keepIn K (.ref f27) = true)
    (a28 : PySem.W.nsIn K mainGlobals "_law_floor" = some (some (.ref f28))) (l28 : K.lookup f28 = some ⟨oc28, od28, .func (PySem.W.fnOf "_law_floor" "_law_floor" (defArgs s_law_floor) (defBody s_law_floor) (defScope s_law_floor) .none kV28 dc28 pm28 an28 cd28 ct28), sl28⟩) (c28 : PySem.W.codeIn K cd28 "_law_floor" = true) (k28 : PySem.W.keepIn K (.ref f28) = true)
    (a29 : PySem.W.nsIn K mainGlobals "_law_cells" = some (some (.ref f29))) (l29 : K.lookup f29 = some ⟨oc29, od29, .func (PySem.W.fnOf "_law_cells" "_law_cells" (defArgs s_law_cells) (defBody s_law_cells) (defScope s_law_cells) .none kV29 dc29 pm29 an29 cd29 ct29), sl29⟩) (c29 : PySem.W.codeIn K cd29 "_law_cells" = true) (k29 : PySem.W.keepIn K (.ref f29) = true)
    (a30 : PySem.W.nsIn K mainGlobals "_law_next" = some (some (.ref f30))) (l30 : K.lookup f30 = some ⟨oc30, od30, .func (PySem.W.fnOf "_law_next" "_law_next" (defArgs s_law_next) (defBody s_law_next) (defScope s_law_next) .none kV30 dc30 pm30 an30 cd30 ct30), sl30⟩) (c30 : PySem.W.codeIn K cd30 "_law_next" = true) (k30 : PySem.W.keepIn K (.ref f30) = true)
    (a31 : PySem.W.nsIn K mainGlobals "_law_far" = some (some (.ref f31))) (l31 : K.lookup f31 = some ⟨oc31, od31, .func (PySem.W.fnOf "_law_far" "_law_far" (defArgs s_law_far) (defBody s_law_far) (defScope s_law_far) .none kV31 dc31 pm31 an31 cd31 ct31), sl31⟩) (c31 : PySem.W.codeIn K cd31 "_law_far" = true) (k31 : PySem.W.keepIn K (.ref f31) = true)
    (a32 : PySem.W.nsIn K mainGlobals "_law_refused" = some (some (.ref f32))) (l32 : K.lookup f32 = some ⟨oc32, od32, .func (PySem.W.fnOf "_law_refused" "_law_refused" (defArgs s_law_refused) (defBody s_law_refused) (defScope s_law_refused) .none kV32 dc32 pm32 an32 cd32 ct32), sl32⟩) (c32 : PySem.W.codeIn K cd32 "_law_refused" = true) (k32 : PySem.W.keepIn K (.ref f32) = true)
    (a33 : PySem.W.nsIn K mainGlobals "_law_told" = some (some (.ref f33))) (l33 : K.lookup f33 = some ⟨oc33, od33, .func (PySem.W.fnOf "_law_told" "_law_told" (defArgs s_law_told) (defBody s_law_told) (defScope s_law_told) .none kV33 dc33 pm33 an33 cd33 ct33), sl33⟩) (c33 : PySem.W.codeIn K cd33 "_law_told" = true) (k33 : PySem.W.keepIn K (.ref f33) = true)
    (a34 : PySem.W.nsIn K mainGlobals "law" = some (some (.ref f34))) (l34 : K.lookup f34 = some ⟨oc34, od34, .func (PySem.W.fnOf "law" "law" (defArgs s_law) (defBody s_law) (defScope s_law) .none kV34 dc34 pm34 an34 cd34 ct34), sl34⟩) (c34 : PySem.W.codeIn K cd34 "law" = true) (k34 : PySem.W.keepIn K (.ref f34) = true)
    (a35 : PySem.W.nsIn K mainGlobals "DieError" = some (some (.ref f35)))
    (a36 : PySem.W.nsIn K mainGlobals "NoFloor" = some (some (.ref f36)))
    (a37 : PySem.W.nsIn K mainGlobals "NoCell" = some (some (.ref f37)))
    (a38 : PySem.W.nsIn K mainGlobals "NoLie" = some (some (.ref f38)))
    (a39 : PySem.W.nsIn K mainGlobals "NoRoll" = some (some (.ref f39)))
    (a40 : PySem.W.nsIn K mainGlobals "NoWay" = some (some (.ref f40)))
    (x39 : PySem.W.excIn K f39 veTail "ValueError.__new__" = true)
    (e39_0 : PySem.W.findIn K (.ref f39) "__getattribute__" = some (some (.builtin "BaseException.__getattribute__")))
    (e39_1 : PySem.W.findIn K (.ref f39) "__getattr__" = some none)
    (e39_2 : PySem.W.findIn K (.ref f39) "__class__" = some (some (.builtin "object.__class__")))
    (e39_3 : PySem.W.mroIn K f39 (.type "BaseException") = some true)
    (e39_4 : PySem.W.mroIn K f39 (.type "object") = some true)
    (e39_5 : PySem.W.isClsIn K f39 = true)
    (t39_0 : PySem.W.typeIn K (.ref f35) = some (.type "type"))
    (t39_1 : PySem.W.isClsIn K f35 = true)
    (t39_2 : PySem.W.mroIn K f35 (.type "BaseException") = some true)
    (t39_3 : PySem.W.mroIn K f39 (.ref f35) = some true)
    (i39_35 : PySem.W.kitOne K (.ref f39) (.ref f35) = some true)
    (i39_36 : PySem.W.kitOne K (.ref f39) (.ref f36) = some false)
    (i39_37 : PySem.W.kitOne K (.ref f39) (.ref f37) = some false)
    (i39_38 : PySem.W.kitOne K (.ref f39) (.ref f38) = some false)
    (i39_39 : PySem.W.kitOne K (.ref f39) (.ref f39) = some true)
    (i39_40 : PySem.W.kitOne K (.ref f39) (.ref f40) = some false)
    (i39_v : PySem.W.kitOne K (.ref f39) (.type "ValueError") = some true)
    (x38 : PySem.W.excIn K f38 veTail "ValueError.__new__" = true)
    (e38_0 : PySem.W.findIn K (.ref f38) "__getattribute__" = some (some (.builtin "BaseException.__getattribute__")))
    (e38_1 : PySem.W.findIn K (.ref f38) "__getattr__" = some none)
    (e38_2 : PySem.W.findIn K (.ref f38) "__class__" = some (some (.builtin "object.__class__")))
    (e38_3 : PySem.W.mroIn K f38 (.type "BaseException") = some true)
    (e38_4 : PySem.W.mroIn K f38 (.type "object") = some true)
    (e38_5 : PySem.W.isClsIn K f38 = true)
    (t38_0 : PySem.W.typeIn K (.ref f35) = some (.type "type"))
    (t38_1 : PySem.W.isClsIn K f35 = true)
    (t38_2 : PySem.W.mroIn K f35 (.type "BaseException") = some true)
    (t38_3 : PySem.W.mroIn K f38 (.ref f35) = some true)
    (i38_35 : PySem.W.kitOne K (.ref f38) (.ref f35) = some true)
    (i38_36 : PySem.W.kitOne K (.ref f38) (.ref f36) = some false)
    (i38_37 : PySem.W.kitOne K (.ref f38) (.ref f37) = some false)
    (i38_38 : PySem.W.kitOne K (.ref f38) (.ref f38) = some true)
    (i38_39 : PySem.W.kitOne K (.ref f38) (.ref f39) = some false)
    (i38_40 : PySem.W.kitOne K (.ref f38) (.ref f40) = some false)
    (i38_v : PySem.W.kitOne K (.ref f38) (.type "ValueError") = some true)
    (x36 : PySem.W.excIn K f36 veTail "ValueError.__new__" = true)
    (e36_0 : PySem.W.findIn K (.ref f36) "__getattribute__" = some (some (.builtin "BaseException.__getattribute__")))
    (e36_1 : PySem.W.findIn K (.ref f36) "__getattr__" = some none)
    (e36_2 : PySem.W.findIn K (.ref f36) "__class__" = some (some (.builtin "object.__class__")))
    (e36_3 : PySem.W.mroIn K f36 (.type "BaseException") = some true)
    (e36_4 : PySem.W.mroIn K f36 (.type "object") = some true)
    (e36_5 : PySem.W.isClsIn K f36 = true)
    (t36_0 : PySem.W.typeIn K (.ref f35) = some (.type "type"))
    (t36_1 : PySem.W.isClsIn K f35 = true)
    (t36_2 : PySem.W.mroIn K f35 (.type "BaseException") = some true)
    (t36_3 : PySem.W.mroIn K f36 (.ref f35) = some true)
    (i36_35 : PySem.W.kitOne K (.ref f36) (.ref f35) = some true)
    (i36_36 : PySem.W.kitOne K (.ref f36) (.ref f36) = some true)
    (i36_37 : PySem.W.kitOne K (.ref f36) (.ref f37) = some false)
    (i36_38 : PySem.W.kitOne K (.ref f36) (.ref f38) = some false)
    (i36_39 : PySem.W.kitOne K (.ref f36) (.ref f39) = some false)
    (i36_40 : PySem.W.kitOne K (.ref f36) (.ref f40) = some false)
    (i36_v : PySem.W.kitOne K (.ref f36) (.type "ValueError") = some true)
    (x37 : PySem.W.excIn K f37 veTail "ValueError.__new__" = true)
    (e37_0 : PySem.W.findIn K (.ref f37) "__getattribute__" = some (some (.builtin "BaseException.__getattribute__")))
    (e37_1 : PySem.W.findIn K (.ref f37) "__getattr__" = some none)
    (e37_2 : PySem.W.findIn K (.ref f37) "__class__" = some (some (.builtin "object.__class__")))
    (e37_3 : PySem.W.mroIn K f37 (.type "BaseException") = some true)
    (e37_4 : PySem.W.mroIn K f37 (.type "object") = some true)
    (e37_5 : PySem.W.isClsIn K f37 = true)
    (t37_0 : PySem.W.typeIn K (.ref f35) = some (.type "type"))
    (t37_1 : PySem.W.isClsIn K f35 = true)
    (t37_2 : PySem.W.mroIn K f35 (.type "BaseException") = some true)
    (t37_3 : PySem.W.mroIn K f37 (.ref f35) = some true)
    (i37_35 : PySem.W.kitOne K (.ref f37) (.ref f35) = some true)
    (i37_36 : PySem.W.kitOne K (.ref f37) (.ref f36) = some false)
    (i37_37 : PySem.W.kitOne K (.ref f37) (.ref f37) = some true)
    (i37_38 : PySem.W.kitOne K (.ref f37) (.ref f38) = some false)
    (i37_39 : PySem.W.kitOne K (.ref f37) (.ref f39) = some false)
    (i37_40 : PySem.W.kitOne K (.ref f37) (.ref f40) = some false)
    (i37_v : PySem.W.kitOne K (.ref f37) (.type "ValueError") = some true)
    (a41 : PySem.W.nsIn K mainGlobals "CELL" = some (some (.str x41 f41)))
    (q41 : x41 = tx [46])
    (a42 : PySem.W.nsIn K mainGlobals "GAP" = some (some (.str x42 f42)))
    (q42 : x42 = tx [35])
    (a43 : PySem.W.nsIn K mainGlobals "MOST" = some (some (.int 8 f43)))
    (a44 : PySem.W.nsIn K mainGlobals "STEPS" = some (some (.ref f44))) (l44 : K.lookup f44 = some ob44)
    (s44 : (f44 == sysModules) = false) (q44 : ob44.data = .dict #[⟨h44_0, .str x44_0 t44_0, .ref g44_0⟩, ⟨h44_1, .str x44_1 t44_1, .ref g44_1⟩, ⟨h44_2, .str x44_2 t44_2, .ref g44_2⟩, ⟨h44_3, .str x44_3 t44_3, .ref g44_3⟩] ep44 ∧ ob44.ExactDict)
    (xx44_3 : x44_3 = tx [119]) (hh44_3 : h44_3 = hashStr w x44_3) (lg44_3 : K.lookup g44_3 = some og44_3) (qg44_3 : ∃ (its : Array Value) (j : Nat), og44_3.cls = .type "tuple" ∧ og44_3.data = .seq its j ∧ its.size ≤ sizeLine ∧ Vals ([.int (0), .int (-1)] : List V) its.toList)
    (xx44_2 : x44_2 = tx [115]) (hh44_2 : h44_2 = hashStr w x44_2) (lg44_2 : K.lookup g44_2 = some og44_2) (qg44_2 : ∃ (its : Array Value) (j : Nat), og44_2.cls = .type "tuple" ∧ og44_2.data = .seq its j ∧ its.size ≤ sizeLine ∧ Vals ([.int (1), .int (0)] : List V) its.toList)
    (xx44_1 : x44_1 = tx [110]) (hh44_1 : h44_1 = hashStr w x44_1) (lg44_1 : K.lookup g44_1 = some og44_1) (qg44_1 : ∃ (its : Array Value) (j : Nat), og44_1.cls = .type "tuple" ∧ og44_1.data = .seq its j ∧ its.size ≤ sizeLine ∧ Vals ([.int (-1), .int (0)] : List V) its.toList)
    (xx44_0 : x44_0 = tx [101]) (hh44_0 : h44_0 = hashStr w x44_0) (lg44_0 : K.lookup g44_0 = some og44_0) (qg44_0 : ∃ (its : Array Value) (j : Nat), og44_0.cls = .type "tuple" ∧ og44_0.data = .seq its j ∧ its.size ≤ sizeLine ∧ Vals ([.int (0), .int (1)] : List V) its.toList)
    (a45 : PySem.W.nsIn K mainGlobals "ROLLS" = some (some (.str x45 f45)))
    (q45 : x45 = tx [101, 110, 115, 119])
    (z46 : PySem.W.nsIn K mainGlobals "ValueError" = some none)
    (z47 : PySem.W.nsIn K mainGlobals "all" = some none)
    (z48 : PySem.W.nsIn K mainGlobals "bool" = some none)
    (z49 : PySem.W.nsIn K mainGlobals "dict" = some none)
    (z50 : PySem.W.nsIn K mainGlobals "int" = some none)
    (z51 : PySem.W.nsIn K mainGlobals "isinstance" = some none)
    (z52 : PySem.W.nsIn K mainGlobals "len" = some none)
    (z53 : PySem.W.nsIn K mainGlobals "list" = some none)
    (z54 : PySem.W.nsIn K mainGlobals "max" = some none)
    (z55 : PySem.W.nsIn K mainGlobals "min" = some none)
    (z56 : PySem.W.nsIn K mainGlobals "range" = some none)
    (z57 : PySem.W.nsIn K mainGlobals "sorted" = some none) :
    ∃ a : Adr, Txt w K mg a :=
  ⟨⟨f1, PySem.W.fnOf "across" "across" (defArgs s_across) (defBody s_across) (defScope s_across) .none kV1 dc1 pm1 an1 cd1 ct1,
    f2, PySem.W.fnOf "pairs_of" "pairs_of" (defArgs s_pairs_of) (defBody s_pairs_of) (defScope s_pairs_of) .none kV2 dc2 pm2 an2 cd2 ct2,
    f3, PySem.W.fnOf "has_odd_high" "has_odd_high" (defArgs s_has_odd_high) (defBody s_has_odd_high) (defScope s_has_odd_high) .none kV3 dc3 pm3 an3 cd3 ct3,
    f4, PySem.W.fnOf "is_lie" "is_lie" (defArgs s_is_lie) (defBody s_is_lie) (defScope s_is_lie) .none kV4 dc4 pm4 an4 cd4 ct4,
    f5, PySem.W.fnOf "check_lie" "check_lie" (defArgs s_check_lie) (defBody s_check_lie) (defScope s_check_lie) .none kV5 dc5 pm5 an5 cd5 ct5,
    f6, PySem.W.fnOf "rolled_once" "rolled_once" (defArgs s_rolled_once) (defBody s_rolled_once) (defScope s_rolled_once) .none kV6 dc6 pm6 an6 cd6 ct6,
    f7, PySem.W.fnOf "is_row" "is_row" (defArgs s_is_row) (defBody s_is_row) (defScope s_is_row) .none kV7 dc7 pm7 an7 cd7 ct7,
    f8, PySem.W.fnOf "is_floor" "is_floor" (defArgs s_is_floor) (defBody s_is_floor) (defScope s_is_floor) .none kV8 dc8 pm8 an8 cd8 ct8,
    f9, PySem.W.fnOf "check_floor" "check_floor" (defArgs s_check_floor) (defBody s_check_floor) (defScope s_check_floor) .none kV9 dc9 pm9 an9 cd9 ct9,
    f10, PySem.W.fnOf "is_cell" "is_cell" (defArgs s_is_cell) (defBody s_is_cell) (defScope s_is_cell) .none kV10 dc10 pm10 an10 cd10 ct10,
    f11, PySem.W.fnOf "check_place" "check_place" (defArgs s_check_place) (defBody s_check_place) (defScope s_check_place) .none kV11 dc11 pm11 an11 cd11 ct11,
    f12, PySem.W.fnOf "check_stand" "check_stand" (defArgs s_check_stand) (defBody s_check_stand) (defScope s_check_stand) .none kV12 dc12 pm12 an12 cd12 ct12,
    f13, PySem.W.fnOf "next_place" "next_place" (defArgs s_next_place) (defBody s_next_place) (defScope s_next_place) .none kV13 dc13 pm13 an13 cd13 ct13,
    f14, PySem.W.fnOf "next_stand" "next_stand" (defArgs s_next_stand) (defBody s_next_stand) (defScope s_next_stand) .none kV14 dc14 pm14 an14 cd14 ct14,
    f15, PySem.W.fnOf "first_rows" "first_rows" (defArgs s_first_rows) (defBody s_first_rows) (defScope s_first_rows) .none kV15 dc15 pm15 an15 cd15 ct15,
    f16, PySem.W.fnOf "come_to" "come_to" (defArgs s_come_to) (defBody s_come_to) (defScope s_come_to) .none kV16 dc16 pm16 an16 cd16 ct16,
    f17, PySem.W.fnOf "ends" "ends" (defArgs s_ends) (defBody s_ends) (defScope s_ends) .none kV17 dc17 pm17 an17 cd17 ct17,
    f18, PySem.W.fnOf "tops_by_place" "tops_by_place" (defArgs s_tops_by_place) (defBody s_tops_by_place) (defScope s_tops_by_place) .none kV18 dc18 pm18 an18 cd18 ct18,
    f19, PySem.W.fnOf "firm" "firm" (defArgs s_firm) (defBody s_firm) (defScope s_firm) .none kV19 dc19 pm19 an19 cd19 ct19,
    f20, PySem.W.fnOf "_law_cell_at" "_law_cell_at" (defArgs s_law_cell_at) (defBody s_law_cell_at) (defScope s_law_cell_at) .none kV20 dc20 pm20 an20 cd20 ct20,
    f21, PySem.W.fnOf "_law_whole" "_law_whole" (defArgs s_law_whole) (defBody s_law_whole) (defScope s_law_whole) .none kV21 dc21 pm21 an21 cd21 ct21,
    f22, PySem.W.fnOf "_law_mix" "_law_mix" (defArgs s_law_mix) (defBody s_law_mix) (defScope s_law_mix) .none kV22 dc22 pm22 an22 cd22 ct22,
    f23, PySem.W.fnOf "_law_pairs" "_law_pairs" (defArgs s_law_pairs) (defBody s_law_pairs) (defScope s_law_pairs) .none kV23 dc23 pm23 an23 cd23 ct23,
    f24, PySem.W.fnOf "_law_odd" "_law_odd" (defArgs s_law_odd) (defBody s_law_odd) (defScope s_law_odd) .none kV24 dc24 pm24 an24 cd24 ct24,
    f25, PySem.W.fnOf "_law_is_lie" "_law_is_lie" (defArgs s_law_is_lie) (defBody s_law_is_lie) (defScope s_law_is_lie) .none kV25 dc25 pm25 an25 cd25 ct25,
    f26, PySem.W.fnOf "_law_lies" "_law_lies" (defArgs s_law_lies) (defBody s_law_lies) (defScope s_law_lies) .none kV26 dc26 pm26 an26 cd26 ct26,
    f27, PySem.W.fnOf "_law_roll" "_law_roll" (defArgs s_law_roll) (defBody s_law_roll) (defScope s_law_roll) .none kV27 dc27 pm27 an27 cd27 ct27,
    f28, PySem.W.fnOf "_law_floor" "_law_floor" (defArgs s_law_floor) (defBody s_law_floor) (defScope s_law_floor) .none kV28 dc28 pm28 an28 cd28 ct28,
    f29, PySem.W.fnOf "_law_cells" "_law_cells" (defArgs s_law_cells) (defBody s_law_cells) (defScope s_law_cells) .none kV29 dc29 pm29 an29 cd29 ct29,
    f30, PySem.W.fnOf "_law_next" "_law_next" (defArgs s_law_next) (defBody s_law_next) (defScope s_law_next) .none kV30 dc30 pm30 an30 cd30 ct30,
    f31, PySem.W.fnOf "_law_far" "_law_far" (defArgs s_law_far) (defBody s_law_far) (defScope s_law_far) .none kV31 dc31 pm31 an31 cd31 ct31,
    f32, PySem.W.fnOf "_law_refused" "_law_refused" (defArgs s_law_refused) (defBody s_law_refused) (defScope s_law_refused) .none kV32 dc32 pm32 an32 cd32 ct32,
    f33, PySem.W.fnOf "_law_told" "_law_told" (defArgs s_law_told) (defBody s_law_told) (defScope s_law_told) .none kV33 dc33 pm33 an33 cd33 ct33,
    f34, PySem.W.fnOf "law" "law" (defArgs s_law) (defBody s_law) (defScope s_law) .none kV34 dc34 pm34 an34 cd34 ct34,
    f35,
    f36,
    f37,
    f38,
    f39,
    f40,
    f41,
    f42,
    f43,
    f44,
    f45⟩, ⟨⟨fun_mk (st := s_across) l1 c1 k1, (fun_mk (st := s_across) l1 c1 k1).binds (ps := ["number"]) (fun _ _ _ _ _ _ _ hl => L2.lenN1 hl fun _ => rfl), PySem.W.mg_of X G a1⟩,
    ⟨fun_mk (st := s_pairs_of) l2 c2 k2, (fun_mk (st := s_pairs_of) l2 c2 k2).binds (ps := ["lie"]) (fun _ _ _ _ _ _ _ hl => L2.lenN1 hl fun _ => rfl), PySem.W.mg_of X G a2⟩,
    ⟨fun_mk (st := s_has_odd_high) l3 c3 k3, (fun_mk (st := s_has_odd_high) l3 c3 k3).binds (ps := ["lie"]) (fun _ _ _ _ _ _ _ hl => L2.lenN1 hl fun _ => rfl), PySem.W.mg_of X G a3⟩,
    ⟨fun_mk (st := s_is_lie) l4 c4 k4, (fun_mk (st := s_is_lie) l4 c4 k4).binds (ps := ["lie"]) (fun _ _ _ _ _ _ _ hl => L2.lenN1 hl fun _ => rfl), PySem.W.mg_of X G a4⟩,
    ⟨fun_mk (st := s_check_lie) l5 c5 k5, (fun_mk (st := s_check_lie) l5 c5 k5).binds (ps := ["lie"]) (fun _ _ _ _ _ _ _ hl => L2.lenN1 hl fun _ => rfl), PySem.W.mg_of X G a5⟩,
    ⟨fun_mk (st := s_rolled_once) l6 c6 k6, (fun_mk (st := s_rolled_once) l6 c6 k6).binds (ps := ["lie", "roll"]) (fun _ _ _ _ _ _ _ hl => L2.lenN2 hl fun _ _ => rfl), PySem.W.mg_of X G a6⟩,
    ⟨fun_mk (st := s_is_row) l7 c7 k7, (fun_mk (st := s_is_row) l7 c7 k7).binds (ps := ["row", "width"]) (fun _ _ _ _ _ _ _ hl => L2.lenN2 hl fun _ _ => rfl), PySem.W.mg_of X G a7⟩,
    ⟨fun_mk (st := s_is_floor) l8 c8 k8, (fun_mk (st := s_is_floor) l8 c8 k8).binds (ps := ["floor"]) (fun _ _ _ _ _ _ _ hl => L2.lenN1 hl fun _ => rfl), PySem.W.mg_of X G a8⟩,
    ⟨fun_mk (st := s_check_floor) l9 c9 k9, (fun_mk (st := s_check_floor) l9 c9 k9).binds (ps := ["floor"]) (fun _ _ _ _ _ _ _ hl => L2.lenN1 hl fun _ => rfl), PySem.W.mg_of X G a9⟩,
    ⟨fun_mk (st := s_is_cell) l10 c10 k10, (fun_mk (st := s_is_cell) l10 c10 k10).binds (ps := ["floor", "place"]) (fun _ _ _ _ _ _ _ hl => L2.lenN2 hl fun _ _ => rfl), PySem.W.mg_of X G a10⟩,
    ⟨fun_mk (st := s_check_place) l11 c11 k11, (fun_mk (st := s_check_place) l11 c11 k11).binds (ps := ["floor", "place"]) (fun _ _ _ _ _ _ _ hl => L2.lenN2 hl fun _ _ => rfl), PySem.W.mg_of X G a11⟩,
    ⟨fun_mk (st := s_check_stand) l12 c12 k12, (fun_mk (st := s_check_stand) l12 c12 k12).binds (ps := ["floor", "stand"]) (fun _ _ _ _ _ _ _ hl => L2.lenN2 hl fun _ _ => rfl), PySem.W.mg_of X G a12⟩,
    ⟨fun_mk (st := s_next_place) l13 c13 k13, (fun_mk (st := s_next_place) l13 c13 k13).binds (ps := ["place", "roll"]) (fun _ _ _ _ _ _ _ hl => L2.lenN2 hl fun _ _ => rfl), PySem.W.mg_of X G a13⟩,
    ⟨fun_mk (st := s_next_stand) l14 c14 k14, (fun_mk (st := s_next_stand) l14 c14 k14).binds (ps := ["floor", "stand", "roll"]) (fun _ _ _ _ _ _ _ hl => L2.lenN3 hl fun _ _ _ => rfl), PySem.W.mg_of X G a14⟩,
    ⟨fun_mk (st := s_first_rows) l15 c15 k15, (fun_mk (st := s_first_rows) l15 c15 k15).binds (ps := ["floor", "start"]) (fun _ _ _ _ _ _ _ hl => L2.lenN2 hl fun _ _ => rfl), PySem.W.mg_of X G a15⟩,
    ⟨fun_mk (st := s_come_to) l16 c16 k16, (fun_mk (st := s_come_to) l16 c16 k16).binds (ps := ["floor", "stand"]) (fun _ _ _ _ _ _ _ hl => L2.lenN2 hl fun _ _ => rfl), PySem.W.mg_of X G a16⟩,
    ⟨fun_mk (st := s_ends) l17 c17 k17, (fun_mk (st := s_ends) l17 c17 k17).binds (ps := ["floor", "stand", "place"]) (fun _ _ _ _ _ _ _ hl => L2.lenN3 hl fun _ _ _ => rfl), PySem.W.mg_of X G a17⟩,
    ⟨fun_mk (st := s_tops_by_place) l18 c18 k18, (fun_mk (st := s_tops_by_place) l18 c18 k18).binds (ps := ["stands"]) (fun _ _ _ _ _ _ _ hl => L2.lenN1 hl fun _ => rfl), PySem.W.mg_of X G a18⟩,
    ⟨fun_mk (st := s_firm) l19 c19 k19, (fun_mk (st := s_firm) l19 c19 k19).binds (ps := ["floor", "stand"]) (fun _ _ _ _ _ _ _ hl => L2.lenN2 hl fun _ _ => rfl), PySem.W.mg_of X G a19⟩,
    ⟨fun_mk (st := s_law_cell_at) l20 c20 k20, (fun_mk (st := s_law_cell_at) l20 c20 k20).binds (ps := ["script", "k"]) (fun _ _ _ _ _ _ _ hl => L2.lenN2 hl fun _ _ => rfl), PySem.W.mg_of X G a20⟩,
    ⟨fun_mk (st := s_law_whole) l21 c21 k21, (fun_mk (st := s_law_whole) l21 c21 k21).binds (ps := ["x"]) (fun _ _ _ _ _ _ _ hl => L2.lenN1 hl fun _ => rfl), PySem.W.mg_of X G a21⟩,
    ⟨fun_mk (st := s_law_mix) l22 c22 k22, (fun_mk (st := s_law_mix) l22 c22 k22).binds (ps := ["cell", "k"]) (fun _ _ _ _ _ _ _ hl => L2.lenN2 hl fun _ _ => rfl), PySem.W.mg_of X G a22⟩,
    ⟨fun_mk (st := s_law_pairs) l23 c23 k23, (fun_mk (st := s_law_pairs) l23 c23 k23).binds (ps := ["lie"]) (fun _ _ _ _ _ _ _ hl => L2.lenN1 hl fun _ => rfl), PySem.W.mg_of X G a23⟩,
    ⟨fun_mk (st := s_law_odd) l24 c24 k24, (fun_mk (st := s_law_odd) l24 c24 k24).binds (ps := ["row"]) (fun _ _ _ _ _ _ _ hl => L2.lenN1 hl fun _ => rfl), PySem.W.mg_of X G a24⟩,
    ⟨fun_mk (st := s_law_is_lie) l25 c25 k25, (fun_mk (st := s_law_is_lie) l25 c25 k25).binds (ps := ["lie"]) (fun _ _ _ _ _ _ _ hl => L2.lenN1 hl fun _ => rfl), PySem.W.mg_of X G a25⟩,
    ⟨fun_mk (st := s_law_lies) l26 c26 k26, (fun_mk (st := s_law_lies) l26 c26 k26).binds (ps := []) (fun _ _ _ _ _ _ _ hl => L2.lenN0 hl rfl), PySem.W.mg_of X G a26⟩,
    ⟨fun_mk (st := s_law_roll) l27 c27 k27, (fun_mk (st := s_law_roll) l27 c27 k27).binds (ps := ["lie", "roll"]) (fun _ _ _ _ _ _ _ hl => L2.lenN2 hl fun _ _ => rfl), PySem.W.mg_of X G a27⟩,
    ⟨fun_mk (st := s_law_floor) l28 c28 k28, (fun_mk (st := s_law_floor) l28 c28 k28).binds (ps := ["script", "start", "most"]) (fun _ _ _ _ _ _ _ hl => L2.lenN3 hl fun _ _ _ => rfl), PySem.W.mg_of X G a28⟩,
    ⟨fun_mk (st := s_law_cells) l29 c29 k29, (fun_mk (st := s_law_cells) l29 c29 k29).binds (ps := ["floor"]) (fun _ _ _ _ _ _ _ hl => L2.lenN1 hl fun _ => rfl), PySem.W.mg_of X G a29⟩,
    ⟨fun_mk (st := s_law_next) l30 c30 k30, (fun_mk (st := s_law_next) l30 c30 k30).binds (ps := ["floor", "stand", "roll"]) (fun _ _ _ _ _ _ _ hl => L2.lenN3 hl fun _ _ _ => rfl), PySem.W.mg_of X G a30⟩,
    ⟨fun_mk (st := s_law_far) l31 c31 k31, (fun_mk (st := s_law_far) l31 c31 k31).binds (ps := ["floor", "stand"]) (fun _ _ _ _ _ _ _ hl => L2.lenN2 hl fun _ _ => rfl), PySem.W.mg_of X G a31⟩,
    ⟨fun_mk (st := s_law_refused) l32 c32 k32, (fun_mk (st := s_law_refused) l32 c32 k32).binds (ps := ["marks", "which"]) (fun _ _ _ _ _ _ _ hl => L2.lenN2 hl fun _ _ => rfl), PySem.W.mg_of X G a32⟩,
    ⟨fun_mk (st := s_law_told) l33 c33 k33, (fun_mk (st := s_law_told) l33 c33 k33).binds (ps := ["floor", "stand", "place"]) (fun _ _ _ _ _ _ _ hl => L2.lenN3 hl fun _ _ _ => rfl), PySem.W.mg_of X G a33⟩,
    ⟨fun_mk (st := s_law) l34 c34 k34, (fun_mk (st := s_law) l34 c34 k34).binds (ps := ["script"]) (fun _ _ _ _ _ _ _ hl => L2.lenN1 hl fun _ => rfl), PySem.W.mg_of X G a34⟩,
    PySem.W.mg_of X G a35,
    PySem.W.mg_of X G a36,
    PySem.W.mg_of X G a37,
    PySem.W.mg_of X G a38,
    PySem.W.mg_of X G a39,
    PySem.W.mg_of X G a40,
    x39,
    ⟨e39_0, e39_1, e39_2, e39_3, e39_4, e39_5⟩,
    ⟨t39_0, t39_1, t39_2, t39_3⟩,
    i39_35,
    i39_36,
    i39_37,
    i39_38,
    i39_39,
    i39_40,
    i39_v,
    x38,
    ⟨e38_0, e38_1, e38_2, e38_3, e38_4, e38_5⟩,
    ⟨t38_0, t38_1, t38_2, t38_3⟩,
    i38_35,
    i38_36,
    i38_37,
    i38_38,
    i38_39,
    i38_40,
    i38_v,
    x36,
    ⟨e36_0, e36_1, e36_2, e36_3, e36_4, e36_5⟩,
    ⟨t36_0, t36_1, t36_2, t36_3⟩,
    i36_35,
    i36_36,
    i36_37,
    i36_38,
    i36_39,
    i36_40,
    i36_v,
    x37,
    ⟨e37_0, e37_1, e37_2, e37_3, e37_4, e37_5⟩,
    ⟨t37_0, t37_1, t37_2, t37_3⟩,
    i37_35,
    i37_36,
    i37_37,
    i37_38,
    i37_39,
    i37_40,
    i37_v,
    (q41 ▸ PySem.W.mg_of X G a41),
    (q42 ▸ PySem.W.mg_of X G a42),
    PySem.W.mg_of X G a43,
    PySem.W.mg_of X G a44,
    ⟨s44, by decide, ob44, _, _, l44, q44.2, q44.1, (show CEnts w K [⟨h44_0, .str x44_0 t44_0, .ref g44_0⟩, ⟨h44_1, .str x44_1 t44_1, .ref g44_1⟩, ⟨h44_2, .str x44_2 t44_2, .ref g44_2⟩, ⟨h44_3, .str x44_3 t44_3, .ref g44_3⟩] _ from (.cons (by rw [← xx44_0]; exact hh44_0) (by rw [xx44_0]) rfl (fun H => let ⟨its, j, z⟩ := qg44_0; .inr ⟨og44_0, its, j, lg44_0, z⟩) (.cons (by rw [← xx44_1]; exact hh44_1) (by rw [xx44_1]) rfl (fun H => let ⟨its, j, z⟩ := qg44_1; .inr ⟨og44_1, its, j, lg44_1, z⟩) (.cons (by rw [← xx44_2]; exact hh44_2) (by rw [xx44_2]) rfl (fun H => let ⟨its, j, z⟩ := qg44_2; .inr ⟨og44_2, its, j, lg44_2, z⟩) (.cons (by rw [← xx44_3]; exact hh44_3) (by rw [xx44_3]) rfl (fun H => let ⟨its, j, z⟩ := qg44_3; .inr ⟨og44_3, its, j, lg44_3, z⟩) .nil)))))⟩,
    (q45 ▸ PySem.W.mg_of X G a45),
    PySem.W.mg_none_of X G z46,
    PySem.W.mg_none_of X G z47,
    PySem.W.mg_none_of X G z48,
    PySem.W.mg_none_of X G z49,
    PySem.W.mg_none_of X G z50,
    PySem.W.mg_none_of X G z51,
    PySem.W.mg_none_of X G z52,
    PySem.W.mg_none_of X G z53,
    PySem.W.mg_none_of X G z54,
    PySem.W.mg_none_of X G z55,
    PySem.W.mg_none_of X G z56,
    PySem.W.mg_none_of X G z57⟩⟩
end D06
/-- a twin that nothing uses: so that none is made -/
theorem PySem.W.Fast.te13325338109050196863 : True := trivial
open PySem PySem.W PyProof.Rows
set_option maxRecDepth 100000 in
set_option maxHeartbeats 0 in
theorem PySem.Challenge.cw_rolldie_k06_come_to_holds : PySem.Challenge.rw_rolldie_k06_come_to.Holds := by
  w_on; o_law; k_head; (case hw => w_witness2)
  k_fill
  refine L2.walkE (l := PySem.Challenge.rw_rolldie_k06_come_to) (n := 63) (k := 8) (x := "script") (sp := L2.spLaw) rfl (by decide) rfl ⟨rfl, by decide, by decide, rfl⟩ (fun w h Y => PySem.W.kIn_of Y) ?F ?S
  case F =>
    intro w mg fa h KX G hmg
    have T : ∃ a : D06.Adr, D06.Txt w (L2.KOf KX) mg a := by
      dsimp only [L2.KOf]
      refine' D06.txt_mk KX G ?a1 ?l1 ?c1 ?k1 ?a2 ?l2 ?c2 ?k2 ?a3 ?l3 ?c3 ?k3 ?a4 ?l4 ?c4 ?k4 ?a5 ?l5 ?c5 ?k5 ?a6 ?l6 ?c6 ?k6 ?a7 ?l7 ?c7 ?k7 ?a8 ?l8 ?c8 ?k8 ?a9 ?l9 ?c9 ?k9 ?a10 ?l10 ?c10 ?k10 ?a11 ?l11 ?c11 ?k11 ?a12 ?l12 ?c12 ?k12 ?a13 ?l13 ?c13 ?k13 ?a14 ?l14 ?c14 ?k14 ?a15 ?l15 ?c15 ?k15 ?a16 ?l16 ?c16 ?k16 ?a17 ?l17 ?c17 ?k17 ?a18 ?l18 ?c18 ?k18 ?a19 ?l19 ?c19 ?k19 ?a20 ?l20 ?c20 ?k20 ?a21 ?l21 ?c21 ?k21 ?a22 ?l22 ?c22 ?k22 ?a23 ?l23 ?c23 ?k23 ?a24 ?l24 ?c24 ?k24 ?a25 ?l25 ?c25 ?k25 ?a26 ?l26 ?c26 ?k26 ?a27 ?l27 ?c27 ?k27 ?a28 ?l28 ?c28 ?k28 ?a29 ?l29 ?c29 ?k29 ?a30 ?l30 ?c30 ?k30 ?a31 ?l31 ?c31 ?k31 ?a32 ?l32 ?c32 ?k32 ?a33 ?l33 ?c33 ?k33 ?a34 ?l34 ?c34 ?k34 ?a35 ?a36 ?a37 ?a38 ?a39 ?a40 ?x39 ?e39_0 ?e39_1 ?e39_2 ?e39_3 ?e39_4 ?e39_5 ?t39_0 ?t39_1 ?t39_2 ?t39_3 ?i39_35 ?i39_36 ?i39_37 ?i39_38 ?i39_39 ?i39_40 ?i39_v ?x38 ?e38_0 ?e38_1 ?e38_2 ?e38_3 ?e38_4 ?e38_5 ?t38_0 ?t38_1 ?t38_2 ?t38_3 ?i38_35 ?i38_36 ?i38_37 ?i38_38 ?i38_39 ?i38_40 ?i38_v ?x36 ?e36_0 ?e36_1 ?e36_2 ?e36_3 ?e36_4 ?e36_5 ?t36_0 ?t36_1 ?t36_2 ?t36_3 ?i36_35 ?i36_36 ?i36_37 ?i36_38 ?i36_39 ?i36_40 ?i36_v ?x37 ?e37_0 ?e37_1 ?e37_2 ?e37_3 ?e37_4 ?e37_5 ?t37_0 ?t37_1 ?t37_2 ?t37_3 ?i37_35 ?i37_36 ?i37_37 ?i37_38 ?i37_39 ?i37_40 ?i37_v ?a41 ?q41 ?a42 ?q42 ?a43 ?a44 ?l44 ?s44 ?q44 ?xx44_3 ?hh44_3 ?lg44_3 ?qg44_3 ?xx44_2 ?hh44_2 ?lg44_2 ?qg44_2 ?xx44_1 ?hh44_1 ?lg44_1 ?qg44_1 ?xx44_0 ?hh44_0 ?lg44_0 ?qg44_0 ?a45 ?q45 ?z46 ?z47 ?z48 ?z49 ?z50 ?z51 ?z52 ?z53 ?z54 ?z55 ?z56 ?z57
      (case a1 => k_is)
      (case l1 => k_is)
      (case c1 => k_is)
      (case k1 => k_is)
      (case a2 => k_is)
      (case l2 => k_is)
      (case c2 => k_is)
      (case k2 => k_is)
      (case a3 => k_is)
      (case l3 => k_is)
      (case c3 => k_is)
      (case k3 => k_is)
      (case a4 => k_is)
      (case l4 => k_is)
      (case c4 => k_is)
      (case k4 => k_is)
      (case a5 => k_is)
      (case l5 => k_is)
      (case c5 => k_is)
      (case k5 => k_is)
      (case a6 => k_is)
      (case l6 => k_is)
      (case c6 => k_is)
      (case k6 => k_is)
      (case a7 => k_is)
      (case l7 => k_is)
      (case c7 => k_is)
      (case k7 => k_is)
      (case a8 => k_is)
      (case l8 => k_is)
      (case c8 => k_is)
      (case k8 => k_is)
      (case a9 => k_is)
      (case l9 => k_is)
      (case c9 => k_is)
      (case k9 => k_is)
      (case a10 => k_is)
      (case l10 => k_is)
      (case c10 => k_is)
      (case k10 => k_is)
      (case a11 => k_is)
      (case l11 => k_is)
      (case c11 => k_is)
      (case k11 => k_is)
      (case a12 => k_is)
      (case l12 => k_is)
      (case c12 => k_is)
      (case k12 => k_is)
      (case a13 => k_is)
      (case l13 => k_is)
      (case c13 => k_is)
      (case k13 => k_is)
      (case a14 => k_is)
      (case l14 => k_is)
      (case c14 => k_is)
      (case k14 => k_is)
      (case a15 => k_is)
      (case l15 => k_is)
      (case c15 => k_is)
      (case k15 => k_is)
      (case a16 => k_is)
      (case l16 => k_is)
      (case c16 => k_is)
      (case k16 => k_is)
      (case a17 => k_is)
      (case l17 => k_is)
      (case c17 => k_is)
      (case k17 => k_is)
      (case a18 => k_is)
      (case l18 => k_is)
      (case c18 => k_is)
      (case k18 => k_is)
      (case a19 => k_is)
      (case l19 => k_is)
      (case c19 => k_is)
      (case k19 => k_is)
      (case a20 => k_is)
      (case l20 => k_is)
      (case c20 => k_is)
      (case k20 => k_is)
      (case a21 => k_is)
      (case l21 => k_is)
      (case c21 => k_is)
      (case k21 => k_is)
      (case a22 => k_is)
      (case l22 => k_is)
      (case c22 => k_is)
      (case k22 => k_is)
      (case a23 => k_is)
      (case l23 => k_is)
      (case c23 => k_is)
      (case k23 => k_is)
      (case a24 => k_is)
      (case l24 => k_is)
      (case c24 => k_is)
      (case k24 => k_is)
      (case a25 => k_is)
      (case l25 => k_is)
      (case c25 => k_is)
      (case k25 => k_is)
      (case a26 => k_is)
      (case l26 => k_is)
      (case c26 => k_is)
      (case k26 => k_is)
      (case a27 => k_is)
      (case l27 => k_is)
      (case c27 => k_is)
      (case k27 => k_is)
      (case a28 => k_is)
      (case l28 => k_is)
      (case c28 => k_is)
      (case k28 => k_is)
      (case a29 => k_is)
      (case l29 => k_is)
      (case c29 => k_is)
      (case k29 => k_is)
      (case a30 => k_is)
      (case l30 => k_is)
      (case c30 => k_is)
      (case k30 => k_is)
      (case a31 => k_is)
      (case l31 => k_is)
      (case c31 => k_is)
      (case k31 => k_is)
      (case a32 => k_is)
      (case l32 => k_is)
      (case c32 => k_is)
      (case k32 => k_is)
      (case a33 => k_is)
      (case l33 => k_is)
      (case c33 => k_is)
      (case k33 => k_is)
      (case a34 => k_is)
      (case l34 => k_is)
      (case c34 => k_is)
      (case k34 => k_is)
      (case a35 => k_is)
      (case a36 => k_is)
      (case a37 => k_is)
      (case a38 => k_is)
      (case a39 => k_is)
      (case a40 => k_is)
      (case x39 => k_exc)
      (case e39_0 => k_is)
      (case e39_1 => k_is)
      (case e39_2 => k_is)
      (case e39_3 => k_is)
      (case e39_4 => k_is)
      (case e39_5 => k_is)
      (case t39_0 => k_is)
      (case t39_1 => k_is)
      (case t39_2 => k_is)
      (case t39_3 => k_is)
      (case i39_35 => kit_is)
      (case i39_36 => kit_is)
      (case i39_37 => kit_is)
      (case i39_38 => kit_is)
      (case i39_39 => kit_is)
      (case i39_40 => kit_is)
      (case i39_v => kit_is)
      (case x38 => k_exc)
      (case e38_0 => k_is)
      (case e38_1 => k_is)
      (case e38_2 => k_is)
      (case e38_3 => k_is)
      (case e38_4 => k_is)
      (case e38_5 => k_is)
      (case t38_0 => k_is)
      (case t38_1 => k_is)
      (case t38_2 => k_is)
      (case t38_3 => k_is)
      (case i38_35 => kit_is)
      (case i38_36 => kit_is)
      (case i38_37 => kit_is)
      (case i38_38 => kit_is)
      (case i38_39 => kit_is)
      (case i38_40 => kit_is)
      (case i38_v => kit_is)
      (case x36 => k_exc)
      (case e36_0 => k_is)
      (case e36_1 => k_is)
      (case e36_2 => k_is)
      (case e36_3 => k_is)
      (case e36_4 => k_is)
      (case e36_5 => k_is)
      (case t36_0 => k_is)
      (case t36_1 => k_is)
      (case t36_2 => k_is)
      (case t36_3 => k_is)
      (case i36_35 => kit_is)
      (case i36_36 => kit_is)
      (case i36_37 => kit_is)
      (case i36_38 => kit_is)
      (case i36_39 => kit_is)
      (case i36_40 => kit_is)
      (case i36_v => kit_is)
      (case x37 => k_exc)
      (case e37_0 => k_is)
      (case e37_1 => k_is)
      (case e37_2 => k_is)
      (case e37_3 => k_is)
      (case e37_4 => k_is)
      (case e37_5 => k_is)
      (case t37_0 => k_is)
      (case t37_1 => k_is)
      (case t37_2 => k_is)
      (case t37_3 => k_is)
      (case i37_35 => kit_is)
      (case i37_36 => kit_is)
      (case i37_37 => kit_is)
      (case i37_38 => kit_is)
      (case i37_39 => kit_is)
      (case i37_40 => kit_is)
      (case i37_v => kit_is)
      (case a41 => k_is)
      (case q41 => decide +kernel)
      (case a42 => k_is)
      (case q42 => decide +kernel)
      (case a43 => k_is)
      (case a44 => k_is)
      (case l44 => k_is)
      (case s44 => decide)
      (case q44 => exact ⟨rfl, rfl, rfl, rfl⟩)
      (case xx44_3 => decide +kernel)
      (case hh44_3 => rfl)
      (case lg44_3 => k_is)
      (case qg44_3 => exact ⟨_, _, rfl, rfl, by decide, .cons ⟨_, rfl⟩ (.cons ⟨_, rfl⟩ (.nil))⟩)
      (case xx44_2 => decide +kernel)
      (case hh44_2 => rfl)
      (case lg44_2 => k_is)
      (case qg44_2 => exact ⟨_, _, rfl, rfl, by decide, .cons ⟨_, rfl⟩ (.cons ⟨_, rfl⟩ (.nil))⟩)
      (case xx44_1 => decide +kernel)
      (case hh44_1 => rfl)
      (case lg44_1 => k_is)
      (case qg44_1 => exact ⟨_, _, rfl, rfl, by decide, .cons ⟨_, rfl⟩ (.cons ⟨_, rfl⟩ (.nil))⟩)
      (case xx44_0 => decide +kernel)
      (case hh44_0 => rfl)
      (case lg44_0 => k_is)
      (case qg44_0 => exact ⟨_, _, rfl, rfl, by decide, .cons ⟨_, rfl⟩ (.cons ⟨_, rfl⟩ (.nil))⟩)
      (case a45 => k_is)
      (case q45 => decide +kernel)
      (case z46 => k_is)
      (case z47 => k_is)
      (case z48 => k_is)
      (case z49 => k_is)
      (case z50 => k_is)
      (case z51 => k_is)
      (case z52 => k_is)
      (case z53 => k_is)
      (case z54 => k_is)
      (case z55 => k_is)
      (case z56 => k_is)
      (case z57 => k_is)
    obtain ⟨a, T⟩ := T
    have e0 := hmg.symm.trans T.A_law.m
    cases e0
    exact ⟨_, D06.law_binds T, fun base _ _ => L2.law_ok (fun ns hl => D06.c_law T hl)⟩
  case S => exact fun K H a ns hl _ hS => ⟨a, ns, rfl, hS, hl, fun _ => rfl⟩


