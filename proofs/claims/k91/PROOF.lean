import PyProof.Rows.All
import Wide.All
import OpenK.AllK
import Wide.FinOn
import Lean
import PyProof.EqAt
import PyProof.EqKinds
import PyProof.TupleCall
import PySem.Challenge.RW_steermill_k91_tables_as_texts
set_option Elab.async false
set_option linter.all false
set_option maxRecDepth 100000
/-! THE HAND LAYER, for ints, bools, texts, own classes, LISTS and tuples (index, slices, in, append, pop ..), calls, loops. Paste it whole ahead of your own text; what your proof does not reach may be deleted. -/
namespace L2
open PySem PySem.Spec PyProof.Rows

/-- a key: an int or a str -/
noncomputable abbrev Key := Sum Int Str
noncomputable def keyIs : Key → Value → Bool
  | .inl k, v => Value.isInt k v
  | .inr x, v => Value.isStrOf x v
noncomputable def keyH (w : World) : Key → Int
  | .inl k => hashInt k
  | .inr x => hashStr w x
theorem keyIs_shape : ∀ {k : Key} {v : Value}, keyIs k v = true → (∃ i t, k = Sum.inl i ∧ v = Value.int i t) ∨ (∃ x t, k = Sum.inr x ∧ v = Value.str x t)
  | .inl i, v, h => by
    obtain ⟨t, e⟩ := Value.isInt_shape (k := i) (v := v) h
    exact .inl ⟨i, t, rfl, e⟩
  | .inr x, v, h => by
    obtain ⟨t, e⟩ := Value.isStrOf_shape (x := x) (v := v) h
    exact .inr ⟨x, t, rfl, e⟩
theorem key_ll (a b : Int) : decide ((Sum.inl a : Key) = Sum.inl b) = (a == b) := by
  by_cases e : a = b
  · subst e; simp
  · have h : ¬ (Sum.inl a : Key) = Sum.inl b := fun q => e (Sum.inl.inj q)
    rw [decide_eq_false h]
    exact (beq_eq_false_iff_ne.mpr e).symm
theorem key_rr (a b : Str) : decide ((Sum.inr a : Key) = Sum.inr b) = decide (a = b) := by
  by_cases e : a = b
  · subst e; simp
  · have h : ¬ (Sum.inr a : Key) = Sum.inr b := fun q => e (Sum.inr.inj q)
    rw [decide_eq_false h, decide_eq_false e]
theorem key_lr (a : Int) (b : Str) : decide ((Sum.inl a : Key) = Sum.inr b) = false := decide_eq_false (fun q => nomatch q)
theorem key_rl (a : Str) (b : Int) : decide ((Sum.inr a : Key) = Sum.inl b) = false := decide_eq_false (fun q => nomatch q)

noncomputable def mixKind (prog : Program) (w : World) : PySem.KeyKind prog w Key where
  is := keyIs
  hash := keyH w
  inj := fun v a b ha hb => by
    rcases keyIs_shape ha with ⟨i, t, rfl, rfl⟩ | ⟨x, t, rfl, rfl⟩
    · rcases keyIs_shape hb with ⟨j, u, rfl, e⟩ | ⟨y, u, rfl, e⟩
      · injection e with e1 _; rw [e1]
      · exact nomatch e
    · rcases keyIs_shape hb with ⟨j, u, rfl, e⟩ | ⟨y, u, rfl, e⟩
      · exact nomatch e
      · injection e with e1 _; rw [e1]
  byValue := fun k v h => by
    rcases keyIs_shape h with ⟨i, t, rfl, rfl⟩ | ⟨x, t, rfl, rfl⟩ <;> rfl
  pyHash := fun hv h => by
    rcases keyIs_shape hv with ⟨i, t, rfl, rfl⟩ | ⟨x, t, rfl, rfl⟩
    · exact wpAny_pyHash_int h
    · exact wpAny_pyHash_str h
  eqBool := fun hu hv h => by
    rcases keyIs_shape hu with ⟨i, t, rfl, rfl⟩ | ⟨x, t, rfl, rfl⟩
    · rcases keyIs_shape hv with ⟨j, u, rfl, rfl⟩ | ⟨y, u, rfl, rfl⟩
      · rw [key_ll] at h; exact wpAny_eqBool_int h
      · rw [key_lr] at h; exact SeqAt.EqAt.int_str i t y u _ _ _ _ h
    · rcases keyIs_shape hv with ⟨j, u, rfl, rfl⟩ | ⟨y, u, rfl, rfl⟩
      · rw [key_rl] at h; exact SeqAt.EqAt.str_int x t j u _ _ _ _ h
      · rw [key_rr] at h; exact wpAny_eqBool_str h
  «strs» := fun k x t v h => by
    rcases keyIs_shape h with ⟨i, u, rfl, e⟩ | ⟨y, u, rfl, e⟩
    · exact nomatch e
    · injection e with e1 _
      subst e1
      cases v <;> rfl

end L2

namespace L2
open PySem PySem.Spec PyProof.Rows

/-- a value, without the heap -/
inductive V where
  | non | bl (b : Bool) | int (i : Int) | str (x : Str) | byt (b : Array UInt8) | flt (b : UInt64) | ref (a : Addr) | ty (n : String)
  deriving DecidableEq

noncomputable def RelV : V → Value → Prop
  | .non, u => u = Value.none
  | .bl b, u => u = Value.bool b
  | .int i, u => ∃ t, u = Value.int i t
  | .str x, u => ∃ t, u = Value.str x t
  | .byt b, u => ∃ t, u = Value.bytes b t
  | .flt b, u => ∃ t, u = Value.float b t
  | .ref a, u => u = Value.ref a
  | .ty n, u => u = Value.type n

noncomputable abbrev Vals : List V → List Value → Prop := Paired RelV
theorem Vals.length {xs : List V} {us : List Value} (r : Vals xs us) : xs.length = us.length := Paired.length r
theorem Vals.get : ∀ {xs : List V} {us : List Value} {i : Nat} {x : V}, Vals xs us → xs[i]? = some x → ∃ u, us[i]? = some u ∧ RelV x u
  | _, _, _, _, .nil, e => by simp at e
  | _, _, 0, _, .cons r _, e => by simp at e; subst e; exact ⟨_, rfl, r⟩
  | _, _, i + 1, x, .cons _ t, e => by
    obtain ⟨u, h1, h2⟩ := Vals.get (i := i) (x := x) t (by simpa using e)
    exact ⟨u, by simpa using h1, h2⟩
theorem Vals.append : ∀ {xs ys : List V} {us ws : List Value}, Vals xs us → Vals ys ws → Vals (xs ++ ys) (us ++ ws)
  | _, _, _, _, .nil, s => s
  | _, _, _, _, .cons r t, s => .cons r (Vals.append t s)
theorem Vals.take : ∀ {xs : List V} {us : List Value} (n : Nat), Vals xs us → Vals (xs.take n) (us.take n)
  | _, _, 0, _ => .nil
  | _, _, _ + 1, .nil => .nil
  | _, _, n + 1, .cons r t => .cons r (Vals.take n t)
theorem Vals.drop : ∀ {xs : List V} {us : List Value} (n : Nat), Vals xs us → Vals (xs.drop n) (us.drop n)
  | _, _, 0, r => r
  | _, _, _ + 1, .nil => .nil
  | _, _, n + 1, .cons _ t => Vals.drop n t
noncomputable def RelO : Option V → Option Value → Prop
  | some v, some u => RelV v u
  | none, none => True
  | _, _ => False
noncomputable def KV {κ : Type} : List (κ × V) → List (κ × Value) → Prop := Paired fun (p : κ × V) (q : κ × Value) => p.1 = q.1 ∧ RelV p.2 q.2

/-- a key of a dict (00_mix): an int or a text -/
noncomputable def kV : Key → V
  | .inl i => .int i
  | .inr x => .str x

/-- what stands at a tracked address -/
inductive HO where
  /-- a list -/
  | lst (xs : List V)
  /-- a tuple (never changes) -/
  | tup (xs : List V)
  /-- a dict whose keys are ints and texts; one whose keys are tuples of ints and texts (the empty one is both) -/
  | dK (kvs : List (Key × V)) | dT (kvs : List (List Key × V))
  /-- a set of ints: its members, its size -/
  | set (S : Int → Bool) (n : Nat)
  /-- an instance of the class at C, its dict at dx, its attributes -/
  | ins (C dx : Addr) (fs : List (Str × V))
  /-- the dict of the instance at x -/
  | own (x : Addr)
  /-- the dict of an exception -/
  | xd (fs : List (Str × V))
  /-- a bound method, f of x -/
  | met (f x : Addr)
  /-- a range object lo, lo + 1, .. below hi -/
  | rng (lo hi : Int)
  /-- a thing that is known to the object (the script; a dict while a loop walks it): read, never written while it is so -/
  | frz (o : Obj) (u : HO)
  /-- a code object's table -/
  | tbl (ps : Array Value)
  /-- any other thing, by what is true of its one object (a def of one's own: SetO a S n := HO.ext fun h => ..) -/
  | ext (φ : Heap → Prop)

noncomputable abbrev Hp := Addr → Option HO
noncomputable def upd (H : Hp) (a : Addr) (o : HO) : Hp := fun b => if b = a then some o else H b
theorem upd_same {H : Hp} {a : Addr} {o : HO} : upd H a o a = some o := by unfold upd; rw [if_pos rfl]
theorem upd_ne {H : Hp} {a b : Addr} {o : HO} (h : b ≠ a) : upd H a o b = H b := by unfold upd; rw [if_neg h]
theorem ne_of_none {H : Hp} {a b : Addr} {o : HO} (h : H a = some o) (h' : H b = none) : a ≠ b := by
  intro e; subst e; rw [h] at h'; cases h'

section
variable (P : Program) (w : World)
noncomputable def ObjOk (H : Hp) (h : Heap) (a : Addr) : HO → Prop
  | .lst xs => xs.length ≤ sizeLine ∧ ∃ (its : List Value) (n : Nat), Vals xs its ∧ h.get? a = some { cls := .type "list", data := .seq its.toArray n }
  | .tup xs => xs.length ≤ sizeLine ∧ ∃ its : List Value, Vals xs its ∧ IsTup h a its.toArray
  | .dK kvs => kvs.length ≤ sizeLine ∧ (a == sysModules) = false ∧ ∃ vs, KV kvs vs ∧ h.DictOf (mixKind P w) a vs
  | .dT kvs => kvs.length ≤ sizeLine ∧ (a == sysModules) = false ∧ ∃ xs : List (List Key × Addr × Value),
      Paired (fun (p : List Key × V) (q : List Key × Addr × Value) => p.1 = q.1 ∧ H q.2.1 = some (.tup (p.1.map kV)) ∧ RelV p.2 q.2.2) kvs xs ∧
      ∃ o es ep, h.get? a = some o ∧ o.ExactDict ∧ o.data = .dict es ep ∧ es.toList = xs.map (entryOfKey (tupleKind (mixKind P w))) ∧ (xs.map (·.1)).Nodup
  | .set S n => h.SetOf (intKind P w) a S n
  | .ins C dx fs => H dx = some (.own a) ∧ fs.length ≤ 1000 ∧ dx ≠ a ∧ h.get? a = some (PySem.W.instObj C dx) ∧
      ∃ mA, h.Ns1 dx mA ∧ (∀ f, RelO (fs.lookup f) (mA f)) ∧ PySem.Within mA (fs.map (·.1))
  | .own _ => ∃ o, h.get? a = some o
  | .xd fs => ∃ mA, h.Ns1 a mA ∧ ∀ f, RelO (fs.lookup f) (mA f)
  | .rng lo hi => ∃ t u v, h.get? a = some { cls := .type "range", data := .fields #[.int lo t, .int hi u, .int 1 v] }
  | .frz o u => h.get? a = some o ∧ ObjOk H h a u
  | .tbl ps => h.get? a = some { cls := .none, data := .fields ps }
  | .met f x => h.get? a = some (PySem.W.methodObj (.ref f) (.ref x))
  | .ext φ => φ h ∧ (∃ o, h.get? a = some o) ∧ ∀ h1 h2 : Heap, φ h1 → (∀ o, h1.get? a = some o → h2.get? a = some o) → φ h2
/-- the abstract heap is held -/
noncomputable def HOk (H : Hp) (h : Heap) : Prop := ∀ a o, H a = some o → ObjOk P w H h a o
end

section
variable {P : Program} {w : World} {H H' : Hp} {h h' : Heap} {a : Addr} {o : HO}
theorem ObjOk.lt (x : ObjOk P w H h a o) : a < h.objs.size := by
  cases o with
  | lst xs => obtain ⟨_, _, _, _, e⟩ := x; exact Heap.lt_size e
  | tup xs => obtain ⟨_, _, _, p⟩ := x; exact p.lt
  | dK kvs => obtain ⟨_, _, _, _, o, _, _, e, _⟩ := x; exact Heap.lt_size e
  | dT kvs => obtain ⟨_, _, _, _, o, _, _, e, _⟩ := x; exact Heap.lt_size e
  | set S n => obtain ⟨o, _, _, _, e, _⟩ := x; exact Heap.lt_size e
  | ins C dx fs => obtain ⟨_, _, _, e, _⟩ := x; exact Heap.lt_size e
  | own y => obtain ⟨_, e⟩ := x; exact Heap.lt_size e
  | xd fs => obtain ⟨_, ⟨_, _, _, e, _⟩, _⟩ := x; exact Heap.lt_size e
  | rng lo hi => obtain ⟨_, _, _, e⟩ := x; exact Heap.lt_size e
  | frz ob u => obtain ⟨e, _⟩ := x; exact Heap.lt_size e
  | tbl ps => exact Heap.lt_size (show h.get? a = some _ from x)
  | met f y => exact Heap.lt_size (show h.get? a = some _ from x)
  | ext φ => obtain ⟨_, ⟨_, e⟩, _⟩ := x; exact Heap.lt_size e
theorem Paired.mapP {α β : Type} {F G : α → β → Prop} : ∀ {l₁ : List α} {l₂ : List β}, Paired F l₁ l₂ → (∀ a b, F a b → G a b) → Paired G l₁ l₂
  | _, _, .nil, _ => .nil
  | _, _, .cons r t, f => .cons (f _ _ r) (Paired.mapP t f)
/-- what an object's description leans on: its own object, its own dict, the tuples -/
theorem ObjOk.stay (x : ObjOk P w H h a o) (k : ∀ b u, (b = a ∨ H b = some (.own a)) → h.get? b = some u → h'.get? b = some u)
    (ho : ∀ b, H b = some (.own a) → H' b = some (.own a)) (ht : ∀ b xs, H b = some (.tup xs) → H' b = some (.tup xs)) : ObjOk P w H' h' a o := by
  induction o with
  | lst xs => obtain ⟨z, its, n, r, e⟩ := x; exact ⟨z, its, n, r, k _ _ (.inl rfl) e⟩
  | tup xs => obtain ⟨z, its, r, ob, e, c⟩ := x; exact ⟨z, its, r, ob, k _ _ (.inl rfl) e, c⟩
  | dK kvs => obtain ⟨z, y, vs, r, ob, es, ep, e, c⟩ := x; exact ⟨z, y, vs, r, ob, es, ep, k _ _ (.inl rfl) e, c⟩
  | dT kvs =>
    obtain ⟨z, y, xs, r, ob, es, ep, e, c⟩ := x
    exact ⟨z, y, xs, Paired.mapP r fun p q z => ⟨z.1, ht _ _ z.2.1, z.2.2⟩, ob, es, ep, k _ _ (.inl rfl) e, c⟩
  | set S n => obtain ⟨ob, es, ep, t, e, c⟩ := x; exact ⟨ob, es, ep, t, k _ _ (.inl rfl) e, c⟩
  | ins C dx fs =>
    obtain ⟨d, z, ne, e, mA, ⟨od, es, ep, e2, c⟩, r⟩ := x
    exact ⟨ho _ d, z, ne, k _ _ (.inl rfl) e, mA, ⟨od, es, ep, k _ _ (.inr d) e2, c⟩, r⟩
  | own y => obtain ⟨ob, e⟩ := x; exact ⟨ob, k _ _ (.inl rfl) e⟩
  | xd fs => obtain ⟨mA, ⟨od, es, ep, e, c⟩, r⟩ := x; exact ⟨mA, ⟨od, es, ep, k _ _ (.inl rfl) e, c⟩, r⟩
  | rng lo hi => obtain ⟨t, u, v, e⟩ := x; exact ⟨t, u, v, k _ _ (.inl rfl) e⟩
  | frz ob u ih => obtain ⟨e, q⟩ := x; exact ⟨k _ _ (.inl rfl) e, ih q⟩
  | tbl ps =>
    have e : h.get? a = some { cls := .none, data := .fields ps } := x
    show h'.get? a = some { cls := .none, data := .fields ps }
    exact k a _ (.inl rfl) e
  | met f y =>
    have e : h.get? a = some (PySem.W.methodObj (.ref f) (.ref y)) := x
    show h'.get? a = some (PySem.W.methodObj (.ref f) (.ref y))
    exact k a _ (.inl rfl) e
  | ext φ => obtain ⟨p, ⟨o, e⟩, st⟩ := x; exact ⟨st _ _ p fun o q => k _ _ (.inl rfl) q, ⟨o, k _ _ (.inl rfl) e⟩, st⟩
theorem HOk.lt (x : HOk P w H h) (e : H a = some o) : a < h.objs.size := (x a o e).lt
theorem HOk.fresh (x : HOk P w H h) (e : h.objs.size ≤ a) : H a = none := by
  cases q : H a with
  | none => rfl
  | some u => exact absurd (Nat.lt_of_lt_of_le (x.lt q) e) (Nat.lt_irrefl _)
/-- every object of the heap is kept -/
theorem HOk.kept (x : HOk P w H h) (k : ∀ b u, h.get? b = some u → h'.get? b = some u) : HOk P w H h' := fun a o e =>
  (x a o e).stay (fun b u _ q => k b u q) (fun _ q => q) fun _ _ q => q
/-- a new object is laid and tracked -/
theorem HOk.laid (x : HOk P w H h) (k : ∀ b u, h.get? b = some u → h'.get? b = some u) (hp : h.objs.size ≤ a) (new : ObjOk P w (upd H a o) h' a o) : HOk P w (upd H a o) h' := fun b u e => by
  have hn := x.fresh hp
  by_cases hb : b = a
  · subst hb; rw [upd_same] at e; cases e; exact new
  · rw [upd_ne hb] at e
    exact (x b u e).stay (fun c v _ q => k c v q) (fun c q => by rw [upd_ne (ne_of_none q hn)]; exact q) fun c xs q => by rw [upd_ne (ne_of_none q hn)]; exact q
end

/-- what may be read as u: it is u, or a known u -/
noncomputable def Rd (H : Hp) (a : Addr) (u : HO) : Prop := H a = some u ∨ ∃ o, H a = some (.frz o u)
theorem Rd.ok {P : Program} {w : World} {H : Hp} {h : Heap} {a : Addr} {u : HO} (r : Rd H a u) (x : HOk P w H h) : ObjOk P w H h a u := by
  rcases r with r | ⟨o, r⟩
  · exact x a u r
  · obtain ⟨_, q⟩ := x a _ r
    exact q
/-- what may be written -/
noncomputable def Mut : Option HO → Prop
  | some (.lst _) => True
  | some (.dK _) => True
  | some (.dT _) => True
  | some (.set _ _) => True
  | some (.ins _ _ _) => True
  | some (.ext _) => True
  | _ => False
section
variable {P : Program} {w : World} {H : Hp} {h h' : Heap} {x e : Addr} {o' : HO}
/-- the object at e is changed: x itself, or the dict of the instance x -/
theorem HOk.write (ok : HOk P w H h) (mu : Mut (H x)) (he : e = x ∨ H e = some (.own x)) (k : ∀ b u, b ≠ e → h.get? b = some u → h'.get? b = some u) (heo : ∃ u, h'.get? e = some u)
    (new : ObjOk P w (upd H x o') h' x o') : HOk P w (upd H x o') h' := fun b u q => by
  have nown : ∀ c y, H c = some (.own y) → c ≠ x := fun c y r z => by subst z; rw [r] at mu; exact mu
  have ntup : ∀ c xs, H c = some (.tup xs) → c ≠ x := fun c xs r z => by subst z; rw [r] at mu; exact mu
  by_cases hb : b = x
  · subst hb; rw [upd_same] at q; cases q; exact new
  · rw [upd_ne hb] at q
    by_cases hbe : b = e
    · have q' : H b = some (.own x) := by
        rcases he with z | z
        · exact absurd (hbe.trans z) hb
        · rw [hbe]; exact z
      rw [q] at q'; cases q'
      obtain ⟨v, hv⟩ := heo
      exact ⟨v, by rw [hbe]; exact hv⟩
    · refine (ok b u q).stay (fun c v hc r => k c v ?_ r) (fun c r => by rw [upd_ne (nown c b r)]; exact r) fun c xs r => by rw [upd_ne (ntup c xs r)]; exact r
      rcases hc with rfl | hc
      · exact hbe
      · rintro rfl
        rcases he with z | z
        · exact nown c b hc z
        · rw [hc] at z; cases z; exact hb rfl
end

/-! ### kept unless tracked; of the frames at fs (the callers') the slots may change (an exception that passes writes there); of the records at ex (iterators) nothing is said -/
structure Un (fs ex : List Addr) (H H' : Hp) (h h' : Heap) : Prop where
  keep : ∀ b o, h.get? b = some o → H b = none → b ∉ fs → b ∉ ex → h'.get? b = some o
  slot : ∀ b o, h.get? b = some o → H b = none → b ∈ fs → b ∉ ex → ∃ sl, h'.get? b = some { o with slots := sl }
  free : ∀ b o, h.get? b = some o → H b = none → b ∉ ex → H' b = none
  there : ∀ b o, h.get? b = some o → b ∉ ex → ∃ o', h'.get? b = some o'
  tups : ∀ b xs, H b = some (.tup xs) → H' b = some (.tup xs)
  frzs : ∀ b o u, H b = some (.frz o u) → H' b = some (.frz o u)
  tbls : ∀ b ps, H b = some (.tbl ps) → ∃ more, H' b = some (.tbl (ps ++ more))
section
variable {fs fs' ex ex' : List Addr} {H H1 H2 : Hp} {h h1 h2 h' : Heap} {a x e : Addr} {o : HO}
theorem Un.any (u : Un fs ex H H1 h h1) {b : Addr} {ob : Obj} (q : h.get? b = some ob) (n : H b = none) (hx : b ∉ ex) : ∃ sl, h1.get? b = some { ob with slots := sl } := by
  by_cases hb : b ∈ fs
  · exact u.slot b ob q n hb hx
  · exact ⟨ob.slots, u.keep b ob q n hb hx⟩
theorem Un.kept (k : ∀ b u, h.get? b = some u → h'.get? b = some u) : Un fs ex H H h h' :=
  ⟨fun b ob q _ _ _ => k b ob q, fun b ob q _ _ _ => ⟨ob.slots, k b ob q⟩, fun _ _ _ n _ => n, fun b ob q _ => ⟨ob, k b ob q⟩, fun _ _ q => q, fun _ _ _ q => q, fun _ ps q => ⟨#[], by rw [q]; simp⟩⟩
theorem Un.refl : Un fs ex H H h h := Un.kept fun _ _ q => q
theorem Un.laid (k : ∀ b u, h.get? b = some u → h'.get? b = some u) (hp : h.objs.size ≤ a) (hn : H a = none) : Un fs ex H (upd H a o) h h' where
  keep := fun b u q _ _ _ => k b u q
  slot := fun b u q _ _ _ => ⟨u.slots, k b u q⟩
  free := fun b u q n _ => by rw [upd_ne (Nat.ne_of_lt (Nat.lt_of_lt_of_le (Heap.lt_size q) hp))]; exact n
  there := fun b u q _ => ⟨u, k b u q⟩
  tups := fun b xs q => by rw [upd_ne (ne_of_none q hn)]; exact q
  frzs := fun b u xs q => by rw [upd_ne (ne_of_none q hn)]; exact q
  tbls := fun b ps q => ⟨#[], by rw [upd_ne (ne_of_none q hn), q]; simp⟩
theorem Un.write (mu : Mut (H x)) (he : e = x ∨ H e = some (.own x)) (k : ∀ b u, b ≠ e → h.get? b = some u → h'.get? b = some u) (heo : ∃ u, h'.get? e = some u) : Un fs ex H (upd H x o) h h' := by
  have hx : ∀ b, H b = none → b ≠ x := fun b n z => by subst z; rw [n] at mu; exact mu
  have hb : ∀ b, H b = none → b ≠ e := fun b n z => by
    subst z
    rcases he with r | r
    · exact hx b n r
    · rw [n] at r; cases r
  have hm : ∀ b u, H b = some u → ¬ Mut (some u) → b ≠ x := fun b u q nm z => by subst z; rw [q] at mu; exact nm mu
  refine ⟨fun b u q n _ _ => k b u (hb b n) q, fun b u q n _ _ => ⟨u.slots, k b u (hb b n) q⟩, fun b u q n _ => by rw [upd_ne (hx b n)]; exact n, fun b u q _ => ?_,
    fun b xs q => by rw [upd_ne (hm b _ q fun z => z)]; exact q, fun b u xs q => by rw [upd_ne (hm b _ q fun z => z)]; exact q, fun b ps q => ⟨#[], by rw [upd_ne (hm b _ q fun z => z), q]; simp⟩⟩
  by_cases hbe : b = e
  · subst hbe; exact heo
  · exact ⟨u, k b u hbe q⟩
end

/-! ### the heap without what is tracked -/
noncomputable def trk (h : Heap) (H : Hp) : List Addr := (List.range h.objs.size).filter fun a => (H a).isSome
noncomputable def hidT (h : Heap) (H : Hp) : Heap := PySem.W.hideAll h (trk h H)
theorem hidT_size (h : Heap) (H : Hp) : (hidT h H).objs.size = h.objs.size := PySem.W.hideAll_size _ _
theorem hidT_get {h : Heap} {H : Hp} {b : Addr} {o : Obj} (e : h.get? b = some o) (n : H b = none) : (hidT h H).get? b = some o :=
  PySem.W.hideAll_get _ e fun hm => by
    have q : (H b).isSome = true := (List.mem_filter.mp hm).2
    rw [n] at q; simp at q
theorem of_hidT {h : Heap} {H : Hp} {b : Addr} {o : Obj} (e : (hidT h H).get? b = some o) : h.get? b = some o ∧ H b = none := by
  have e' : h.get? b = some o := PySem.W.of_hideAll (trk h H) e
  refine ⟨e', ?_⟩
  cases q : H b with
  | none => rfl
  | some x =>
    have hm : b ∈ trk h H := List.mem_filter.mpr ⟨List.mem_range.mpr (Heap.lt_size e'), by simp [q]⟩
    have z : (hidT h H).get? b = none := PySem.W.hideAll_none (trk h H) hm
    rw [z] at e; cases e

/-! ### OpenK's ledger, filled with every new object but one -/
end L2

namespace L2
open PySem PySem.Spec PyProof.Rows

/-- the module's facts, over the base: the heap at the law's entry without what is tracked there -/
structure Mod (K : PySem.W.Frag) (mg : Str → Option Value) (base : Heap) : Prop where
  kin : K.In base
  glob : base.Ns mainGlobals mg
  blt : ∃ mb, base.Ns builtinsNs mb ∧ ∀ x : Str, x ≠ "__name__" → mb x = bootBuiltins x
  nolimit : base.NoLimit

/-- the context: a def's body (or a comprehension's block) running. base: fixed through the whole law; s₀, H₀: the entry; outer: the frames whose slots others may change (a def's callers); stack: all frames that run;
   ex: iterators that were made ahead of the entry and are walked here (a comprehension's); fn: the names whose cells were made at the entry (a def: all; a comprehension's block: its own); calm: not within an except suite; pn: pins that every state bears; xe: what is wanted of an exception that leaves the code -/
structure Cx where
  prog : Program
  w : World
  K : PySem.W.Frag
  mg : Str → Option Value
  base : Heap
  A : Around
  N : List Str
  s₀ : Shared
  H₀ : Hp
  env : Env
  outer : List Env
  stack : List Env
  ex : List Addr
  fn : Str → Bool
  calm : Bool
  pn : List (Addr × Obj)
  xe : Value → Shared → Prop
/-- the callers' frames -/
noncomputable def frs (l : List Env) : List Addr := l.filterMap (·.frame)
noncomputable abbrev Cx.fs (X : Cx) : List Addr := frs X.outer

noncomputable def Vis (sc : Scope) (x : Str) : Prop := sc.names.lookup x = some .local ∨ sc.names.lookup x = some .cell ∨ sc.names.lookup x = some .free
noncomputable def Loc (sc : Scope) (x : Str) : Prop := sc.names.lookup x = some .local ∨ sc.names.lookup x = some .cell
noncomputable def Look (env : Env) (h : Heap) (m : Str → Option Value) (x : Str) (u : Value) : Prop :=
  (env.kindOf x = some .local ∧ m x = some u) ∨ ((env.kindOf x = some .cell ∨ env.kindOf x = some .free) ∧ ∃ c, env.cells.lookup x = some c ∧ h.IsCell c (some u))

structure Cx.Ok (X : Cx) : Prop where
  mod : Mod X.K X.mg X.base
  kind : X.env.scope.kind = .function
  glob : X.env.globals = mainGlobals
  blt : X.env.builtins = builtinsNs
  above : X.s₀.heap.objs.size ≤ X.env.locals
  inj : ∀ x y c, X.env.cells.lookup x = some c → X.env.cells.lookup y = some c → x = y
  has : ∀ x, (X.env.kindOf x = some .cell ∨ X.env.kindOf x = some .free) → ∃ c, X.env.cells.lookup x = some c
  cab : ∀ x c, X.fn x = true → X.env.cells.lookup x = some c → X.s₀.heap.objs.size ≤ c
  hd : X.calm = true → X.A.handled = none
  frames : X.A.frames = some X.stack
  stk : X.stack = X.outer ∨ (X.stack = X.env :: X.outer ∧ X.env.frame = some X.env.locals)
  exf : ∀ b ∈ X.ex, b ≠ X.env.locals ∧ ∀ x c, X.env.cells.lookup x = some c → c ≠ b
  bs : ∀ b o, X.base.get? b = some o → X.s₀.heap.get? b = some o ∧ X.H₀ b = none
  bsz : X.base.objs.size ≤ X.s₀.heap.objs.size
  noex : ∀ b o, X.base.get? b = some o → b ∉ X.ex
  exfs : ∀ b ∈ X.ex, b ∉ X.fs
  funs : X.s₀.heap.FunFrames X.base X.outer
  frf : ∀ b ∈ X.fs, X.H₀ b = none

structure Inv (X : Cx) (pins : List (Addr × Obj)) (σ : List (Option V)) (H : Hp) (s : Shared) : Prop where
  ok : X.Ok
  os : s.os = X.s₀.os
  bare : AllBare s.gens
  base : Un X.fs X.ex X.H₀ H X.s₀.heap s.heap
  loc : ∃ m, s.heap.Ns X.env.locals m ∧ ∀ (i : Nat) (x : Str) (v : V), X.N[i]? = some x → σ[i]? = some (some v) → Vis X.env.scope x → ∃ u, RelV v u ∧ Look X.env s.heap m x u
  cell : ∀ x c, X.env.cells.lookup x = some c → ∃ v, s.heap.IsCell c v
  free : H X.env.locals = none
  freeC : ∀ x c, X.env.cells.lookup x = some c → H c = none
  pin : ∀ p ∈ X.pn ++ pins, s.heap.get? p.1 = some p.2 ∧ H p.1 = none ∧ p.1 ≠ X.env.locals ∧ p.1 ∉ X.fs ∧ ∀ v, p.2.data ≠ .cell v
  hok : HOk X.prog X.w H s.heap
  len : σ.length = X.N.length

section
variable {X : Cx} {pins : List (Addr × Obj)} {σ : List (Option V)} {H H' : Hp} {s : Shared} {h' : Heap}

theorem Cx.Ok.nofr (ok : X.Ok) {b : Addr} {o : Obj} (e : X.base.get? b = some o) : b ∉ X.fs := fun hb => by
  have := (ok.funs.mem hb).1
  rw [e] at this; cases this
theorem Inv.bs (I : Inv X pins σ H s) : ∀ b o, X.base.get? b = some o → s.heap.get? b = some o ∧ H b = none := fun b o e =>
  ⟨I.base.keep b o (I.ok.bs b o e).1 (I.ok.bs b o e).2 (I.ok.nofr e) (I.ok.noex b o e), I.base.free b o (I.ok.bs b o e).1 (I.ok.bs b o e).2 (I.ok.noex b o e)⟩
theorem Inv.bk (I : Inv X pins σ H s) : ∀ b o, X.base.get? b = some o → s.heap.get? b = some o := fun b o e => (I.bs b o e).1
theorem Inv.mod (I : Inv X pins σ H s) : Mod X.K X.mg X.base := I.ok.mod
theorem Inv.kIn (I : Inv X pins σ H s) : X.K.In s.heap := I.ok.mod.kin.keeps I.bk
theorem Inv.nolimit (I : Inv X pins σ H s) : s.heap.NoLimit := I.ok.mod.nolimit.keeps I.bk
theorem Inv.lt (I : Inv X pins σ H s) : X.env.locals < s.heap.objs.size := let ⟨_, hn, _⟩ := I.loc; hn.lt
theorem Inv.sz (I : Inv X pins σ H s) : X.s₀.heap.objs.size ≤ s.heap.objs.size := Nat.le_trans I.ok.above (Nat.le_of_lt I.lt)
theorem Inv.nofs (I : Inv X pins σ H s) {a : Addr} (h : s.heap.objs.size ≤ a) : a ∉ X.fs := fun hb => by
  obtain ⟨_, o, ho, _⟩ := I.ok.funs.mem hb
  exact absurd (Nat.lt_of_lt_of_le (Heap.lt_size ho) (Nat.le_trans I.sz h)) (Nat.lt_irrefl _)
theorem Inv.cne (I : Inv X pins σ H s) : ∀ x c, X.env.cells.lookup x = some c → c ≠ X.env.locals := fun x c e z => by
  obtain ⟨v, o, ho, hd⟩ := I.cell x c e
  obtain ⟨m, ⟨o', es, ep, ho', hd', _⟩, _⟩ := I.loc
  rw [z, ho'] at ho; cases ho; rw [hd'] at hd; cases hd
theorem Inv.funs (I : Inv X pins σ H s) : s.heap.FunFrames X.base X.outer := by
  have all : ∀ (l : List Env), (∀ b ∈ frs l, b ∈ X.fs) → X.s₀.heap.FunFrames X.base l → s.heap.FunFrames X.base l := by
    intro l
    induction l with
    | nil => intro _ _; trivial
    | cons env r ih =>
      intro hs hl
      obtain ⟨hk, ⟨L, o, hf, hn, ho, hd⟩, hr⟩ := hl
      have hL : L ∈ X.fs := hs L (by unfold frs; rw [List.filterMap_cons, hf]; exact List.mem_cons_self)
      obtain ⟨sl, e⟩ := I.base.slot L o ho (I.ok.frf L hL) hL fun z => I.ok.exfs L z hL
      exact ⟨hk, ⟨L, _, hf, hn, e, hd⟩, ih (fun b hb => hs b (by unfold frs; rw [List.filterMap_cons, hf]; exact List.mem_cons_of_mem _ hb)) hr⟩
  exact all X.outer (fun _ hb => hb) I.ok.funs

/-- the frames that run, for a call -/
theorem Inv.stack (I : Inv X pins σ H s) : s.heap.FunFrames X.base X.stack := by
  rcases I.ok.stk with e | ⟨e, hf⟩
  · rw [e]; exact I.funs
  · rw [e]
    obtain ⟨m, hn, _⟩ := I.loc
    refine .cons (by rw [I.ok.kind]; decide) hf hn ?_ I.funs
    exact Heap.get?_none_of_le (Nat.le_trans I.ok.bsz I.ok.above)
theorem Inv.stkSub (I : Inv X pins σ H s) : ∀ b ∈ frs X.stack, b ∈ X.env.locals :: X.fs := fun b hb => by
  rcases I.ok.stk with e | ⟨e, hf⟩
  · rw [e] at hb; exact List.mem_cons_of_mem _ hb
  · rw [e] at hb
    unfold frs at hb
    rw [List.filterMap_cons, hf] at hb
    exact hb
theorem Inv.stkFree (I : Inv X pins σ H s) : ∀ b ∈ frs X.stack, H b = none := fun b hb => by
  rcases List.mem_cons.mp (I.stkSub b hb) with e | hb
  · rw [e]; exact I.free
  · obtain ⟨_, o, ho, _⟩ := I.ok.funs.mem hb
    exact I.base.free b o ho (I.ok.frf b hb) fun z => I.ok.exfs b z hb

/-- THE STEP: the untracked objects but the frame and the records at ch are kept (the callers' frames up to slots), the frame's map is kept, the new abstract heap is held -/
theorem Inv.step {g' : Array GenState} {t' : Nat} {d' : Drawn} {ch : List Addr} (I : Inv X pins σ H s)
    (hch : ∀ b ∈ ch, (b ∈ X.ex ∨ X.s₀.heap.objs.size ≤ b) ∧ b ≠ X.env.locals ∧ (∀ x c, X.env.cells.lookup x = some c → c ≠ b) ∧ ∀ p ∈ X.pn ++ pins, p.1 ≠ b)
    (keep : ∀ b o, b ≠ X.env.locals → b ∉ X.fs → b ∉ ch → s.heap.get? b = some o → H b = none → h'.get? b = some o)
    (slot : ∀ b o, b ≠ X.env.locals → b ∈ X.fs → b ∉ ch → s.heap.get? b = some o → H b = none → ∃ sl, h'.get? b = some { o with slots := sl }) (free : ∀ b o, b ∉ ch → s.heap.get? b = some o → H b = none → H' b = none)
    (there : ∀ b o, b ∉ ch → s.heap.get? b = some o → ∃ o', h'.get? b = some o')
    (tups : ∀ b xs, H b = some (.tup xs) → H' b = some (.tup xs)) (frzs : ∀ b o u, H b = some (.frz o u) → H' b = some (.frz o u)) (tbls : ∀ b ps, H b = some (.tbl ps) → ∃ more, H' b = some (.tbl (ps ++ more)))
    (ns : ∀ m, s.heap.Ns X.env.locals m → h'.Ns X.env.locals m) (hok : HOk X.prog X.w H' h') (hg : AllBare g') :
    Inv X pins σ H' { s with heap := h', gens := g', drawn := d', toks := t' } := by
  have neL : ∀ b o, X.s₀.heap.get? b = some o → b ≠ X.env.locals := fun b o e => Nat.ne_of_lt (Nat.lt_of_lt_of_le (Heap.lt_size e) I.ok.above)
  have neC : ∀ b o, X.s₀.heap.get? b = some o → b ∉ X.ex → b ∉ ch := fun b o e hx hb => by
    rcases (hch b hb).1 with z | z
    · exact hx z
    · exact absurd (Nat.lt_of_lt_of_le (Heap.lt_size e) z) (Nat.lt_irrefl _)
  have cellK : ∀ x c, X.env.cells.lookup x = some c → ∀ v, s.heap.IsCell c v → h'.IsCell c v := fun x c e v ⟨o, ho, hd⟩ => by
    have nch : c ∉ ch := fun z => (hch c z).2.2.1 x c e rfl
    by_cases hc : c ∈ X.fs
    · obtain ⟨sl, q⟩ := slot c o (I.cne x c e) hc nch ho (I.freeC x c e)
      exact ⟨_, q, hd⟩
    · exact ⟨o, keep c o (I.cne x c e) hc nch ho (I.freeC x c e), hd⟩
  refine ⟨I.ok, I.os, hg, ⟨fun b o e n hb hx => ?_, fun b o e n hb hx => ?_, fun b o e n hx => ?_, fun b o e hx => ?_, fun b xs e => tups b xs (I.base.tups b xs e), fun b o xs e => frzs b o xs (I.base.frzs b o xs e), fun b ps e => ?_⟩, ?_, fun x c e => ?_, ?_, fun x c e => ?_, fun p hp => ?_, hok, I.len⟩
  · exact keep b o (neL b o e) hb (neC b o e hx) (I.base.keep b o e n hb hx) (I.base.free b o e n hx)
  · obtain ⟨sl, e1⟩ := I.base.slot b o e n hb hx
    obtain ⟨sl', e2⟩ := slot b _ (neL b o e) hb (neC b o e hx) e1 (I.base.free b o e n hx)
    exact ⟨sl', e2⟩
  · obtain ⟨o', e1⟩ := I.base.there b o e hx
    exact free b o' (neC b o e hx) e1 (I.base.free b o e n hx)
  · obtain ⟨o', e1⟩ := I.base.there b o e hx
    exact there b o' (neC b o e hx) e1
  · obtain ⟨m1, e1⟩ := I.base.tbls b ps e
    obtain ⟨m2, e2⟩ := tbls b _ e1
    exact ⟨m1 ++ m2, by rw [e2, Array.append_assoc]⟩
  · obtain ⟨m, hn, hl⟩ := I.loc
    refine ⟨m, ns m hn, fun i x v e1 e2 e3 => ?_⟩
    obtain ⟨u, r, l⟩ := hl i x v e1 e2 e3
    refine ⟨u, r, ?_⟩
    rcases l with l | ⟨k, c, e, z⟩
    · exact .inl l
    · exact .inr ⟨k, c, e, cellK x c e _ z⟩
  · obtain ⟨v, z⟩ := I.cell x c e
    exact ⟨v, cellK x c e v z⟩
  · obtain ⟨m, ⟨o, _, _, ho, _⟩, _⟩ := I.loc
    exact free _ o (fun z => (hch _ z).2.1 rfl) ho I.free
  · obtain ⟨v, o, ho, hd⟩ := I.cell x c e
    exact free c o (fun z => (hch c z).2.2.1 x c e rfl) ho (I.freeC x c e)
  · obtain ⟨e, n, ne, nf, d⟩ := I.pin p hp
    have nch : p.1 ∉ ch := fun z => (hch p.1 z).2.2.2 p hp rfl
    exact ⟨keep p.1 p.2 ne nf nch e n, free p.1 p.2 nch e n, ne, nf, d⟩
/-- .. where the frame's own object is kept too -/
theorem Inv.un {t' : Nat} (I : Inv X pins σ H s) (u : Un X.fs [] H H' s.heap h') (hok : HOk X.prog X.w H' h') : Inv X pins σ H' { s with heap := h', toks := t' } := by
  obtain ⟨m, ⟨o, es, ep, ho, r⟩, _⟩ := id I.loc
  obtain ⟨sl, hL⟩ := u.any ho I.free (by simp)
  exact I.step (g' := s.gens) (d' := s.drawn) (ch := []) (fun _ z => nomatch z) (fun b o _ hb _ e n => u.keep b o e n hb (by simp)) (fun b o _ hb _ e n => u.slot b o e n hb (by simp)) (fun b o _ e n => u.free b o e n (by simp)) (fun b o _ e => u.there b o e (by simp)) u.tups u.frzs u.tbls (fun m' hm => by
    obtain ⟨o', es', ep', ho', r'⟩ := hm
    rw [ho] at ho'; cases ho'
    exact ⟨_, es', ep', hL, r'⟩) hok I.bare
/-- behind a call (or a comprehension's block): the slots of this frame may have changed too, the records at ch may have turned -/
theorem Inv.call {g' : Array GenState} {t' : Nat} {d' : Drawn} {ch : List Addr} (I : Inv X pins σ H s) (u : Un (frs X.stack) ch H H' s.heap h') (hok : HOk X.prog X.w H' h') (hg : AllBare g')
    (hch : ∀ b ∈ ch, (b ∈ X.ex ∨ X.s₀.heap.objs.size ≤ b) ∧ b ≠ X.env.locals ∧ (∀ x c, X.env.cells.lookup x = some c → c ≠ b) ∧ ∀ p ∈ X.pn ++ pins, p.1 ≠ b) :
    Inv X pins σ H' { s with heap := h', gens := g', drawn := d', toks := t' } := by
  obtain ⟨m, ⟨o, es, ep, ho, r⟩, _⟩ := id I.loc
  obtain ⟨sl, hL⟩ := u.any ho I.free fun z => (hch _ z).2.1 rfl
  exact I.step (ch := ch) hch (fun b o hL hb hc e n => u.keep b o e n (fun z => (List.mem_cons.mp (I.stkSub b z)).elim hL hb) hc) (fun b o _ _ hc e n => u.any e n hc) (fun b o hc e n => u.free b o e n hc) (fun b o hc e => u.there b o e hc) u.tups u.frzs u.tbls (fun m' hm => by
    obtain ⟨o', es', ep', ho', r'⟩ := hm
    rw [ho] at ho'; cases ho'
    exact ⟨_, es', ep', hL, r'⟩) hok hg
/-- an untracked record of ours (an iterator) has turned -/
theorem Inv.turned {t' : Nat} {it : Addr} (I : Inv X pins σ H s) (k : ∀ b o, b ≠ it → s.heap.get? b = some o → h'.get? b = some o) (hn : H it = none) (hL : it ≠ X.env.locals)
    (h1 : it ∈ X.ex ∨ X.s₀.heap.objs.size ≤ it) (h2 : ∀ x c, X.env.cells.lookup x = some c → c ≠ it) (h3 : ∀ p ∈ X.pn ++ pins, p.1 ≠ it) : Inv X pins σ H { s with heap := h', toks := t' } := by
  have nit : ∀ b u, H b = some u → b ≠ it := fun b u e z => by rw [z, hn] at e; cases e
  refine I.step (g' := s.gens) (d' := s.drawn) (ch := [it]) (fun b hb => ?_) (fun b o _ _ hc e _ => k b o (fun z => hc (by simp [z])) e) (fun b o _ _ hc e _ => ⟨o.slots, k b o (fun z => hc (by simp [z])) e⟩) (fun _ _ _ _ n => n)
    (fun b o hc e => ⟨o, k b o (fun z => hc (by simp [z])) e⟩) (fun _ _ e => e) (fun _ _ _ e => e) (fun b ps e => ⟨#[], by rw [e]; simp⟩) (fun m hm => ?_) (fun b u e => ?_) I.bare
  · have e : b = it := by simpa using hb
    subst e
    exact ⟨h1, hL, h2, h3⟩
  · obtain ⟨o, es, ep, ho, r⟩ := hm
    exact ⟨o, es, ep, k _ o (Ne.symm hL) ho, r⟩
  · refine (I.hok b u e).stay (fun c v hc q => k c v ?_ q) (fun _ q => q) fun _ _ q => q
    rcases hc with z | z
    · rw [z]; exact nit b u e
    · exact nit c _ z
theorem Inv.tok (I : Inv X pins σ H s) (t : Nat) : Inv X pins σ H { s with toks := t } := I.un (h' := s.heap) (t' := t) Un.refl I.hok
/-- all objects kept -/
theorem Inv.kept {t' : Nat} (I : Inv X pins σ H s) (k : ∀ b u, s.heap.get? b = some u → h'.get? b = some u) : Inv X pins σ H { s with heap := h', toks := t' } := I.un (Un.kept k) (I.hok.kept k)
/-- a new object laid and tracked -/
theorem Inv.laid {a : Addr} {o : HO} {t' : Nat} (I : Inv X pins σ H s) (k : ∀ b u, s.heap.get? b = some u → h'.get? b = some u) (hp : s.heap.objs.size ≤ a) (new : ObjOk X.prog X.w (upd H a o) h' a o) :
    Inv X pins σ (upd H a o) { s with heap := h', toks := t' } := I.un (Un.laid k hp (I.hok.fresh hp)) (I.hok.laid k hp new)
/-- an object written -/
theorem Inv.write {x e : Addr} {o : HO} {t' : Nat} (I : Inv X pins σ H s) (mu : Mut (H x)) (he : e = x ∨ H e = some (.own x)) (k : ∀ b u, b ≠ e → s.heap.get? b = some u → h'.get? b = some u) (heo : ∃ u, h'.get? e = some u)
    (new : ObjOk X.prog X.w (upd H x o) h' x o) : Inv X pins σ (upd H x o) { s with heap := h', toks := t' } := I.un (Un.write mu he k heo) (I.hok.write mu he k heo new)
/-- forgetting slots, pins -/
theorem Inv.weak {σ' : List (Option V)} (I : Inv X pins σ H s) (hl : σ'.length = σ.length) (w : ∀ (i : Nat) v, σ'[i]? = some (some v) → σ[i]? = some (some v)) : Inv X pins σ' H s :=
  ⟨I.ok, I.os, I.bare, I.base, let ⟨m, hn, hl'⟩ := I.loc; ⟨m, hn, fun i x v e1 e2 e3 => hl' i x v e1 (w i v e2) e3⟩, I.cell, I.free, I.freeC, I.pin, I.hok, hl.trans I.len⟩
theorem Inv.pins_of {pins' : List (Addr × Obj)} (I : Inv X pins σ H s) (h : ∀ p ∈ pins', s.heap.get? p.1 = some p.2 ∧ H p.1 = none ∧ p.1 ≠ X.env.locals ∧ p.1 ∉ X.fs ∧ ∀ v, p.2.data ≠ .cell v) : Inv X pins' σ H s :=
  ⟨I.ok, I.os, I.bare, I.base, I.loc, I.cell, I.free, I.freeC, fun p hp => (List.mem_append.mp hp).elim (fun z => I.pin p (List.mem_append_left _ z)) (h p), I.hok, I.len⟩

theorem nodup_ix {N : List Str} (hN : N.Nodup) {i j : Nat} {x : Str} (a : N[i]? = some x) (b : N[j]? = some x) : i = j := by
  obtain ⟨h1, e1⟩ := List.getElem?_eq_some_iff.mp a
  obtain ⟨h2, e2⟩ := List.getElem?_eq_some_iff.mp b
  exact (List.getElem_inj hN).mp (e1.trans e2.symm)

/-- a name is stored; what changed -/
theorem store_ok2 {M : Model} {A : Around} {E : Value → Shared → Prop} {i : Nat} {x : Str} {v : V} {u : Value} {Q : Unit → Shared → Prop} (I : Inv X pins σ H s) (hN : X.N.Nodup) (hi : X.N[i]? = some x) (hx : Loc X.env.scope x) (r : RelV v u)
    (h : ∀ s', Inv X pins (σ.set i (some v)) H s' → (∃ a, Heap.SameBut a s.heap s'.heap ∧ (a = X.env.locals ∨ X.env.cells.lookup x = some a)) → Q () s') (hf : X.fn x = true ∨ X.env.scope.names.lookup x = some .local := by first | exact .inl rfl | exact .inr rfl | assumption) : wpAny M A (storeName X.env x u) Q E s := by
  obtain ⟨m, hn, hl⟩ := id I.loc
  have hcls : (X.env.scope.kind == .class || (X.env.scope.kind == .module && X.env.locals != X.env.globals)) = false := by rw [I.ok.kind]; rfl
  have hiσ : i < σ.length := by rw [I.len]; exact (List.getElem?_eq_some_iff.mp hi).1
  have cne := I.cne
  have tracked : ∀ {a : Addr} {h' : Heap}, (∃ o, s.heap.get? a = some o ∧ H a = none) → Heap.SameBut a s.heap h' → HOk X.prog X.w H h' := fun {a h'} ha hs b ob e => by
    obtain ⟨_, _, hfree⟩ := ha
    refine (I.hok b ob e).stay (fun c w' hc q => (hs.2 c ?_).trans q) (fun _ q => q) fun _ _ q => q
    rintro rfl
    rcases hc with rfl | hc
    · rw [hfree] at e; cases e
    · rw [hfree] at hc; cases hc
  rcases hx with hk | hk
  · refine wpAny_storeName_local hk hn (fun h' hn' hs => ?_) hcls
    obtain ⟨oL, _, _, hoL, _⟩ := id hn
    refine h _ ⟨I.ok, I.os, I.bare, ⟨fun b o e n hb hx => ?_, fun b o e n hb hx => ?_, I.base.free, fun b o e hx => ?_, I.base.tups, I.base.frzs, I.base.tbls⟩, ⟨_, hn', fun j y v' e1 e2 e3 => ?_⟩, fun y c e => ?_, I.free, I.freeC, fun p hp => ?_, tracked ⟨oL, hoL, I.free⟩ hs, by simpa using I.len⟩ ⟨_, hs, .inl rfl⟩
    · exact (hs.2 b (Nat.ne_of_lt (Nat.lt_of_lt_of_le (Heap.lt_size e) I.ok.above))).trans (I.base.keep b o e n hb hx)
    · obtain ⟨sl, e1⟩ := I.base.slot b o e n hb hx
      exact ⟨sl, (hs.2 b (Nat.ne_of_lt (Nat.lt_of_lt_of_le (Heap.lt_size e) I.ok.above))).trans e1⟩
    · obtain ⟨o', e1⟩ := I.base.there b o e hx
      exact ⟨o', (hs.2 b (Nat.ne_of_lt (Nat.lt_of_lt_of_le (Heap.lt_size e) I.ok.above))).trans e1⟩
    · by_cases hj : j = i
      · subst hj
        rw [hi] at e1; cases e1
        rw [List.getElem?_set_self hiσ] at e2
        cases e2
        exact ⟨u, r, .inl ⟨hk, by simp⟩⟩
      · rw [List.getElem?_set_ne (Ne.symm hj)] at e2
        obtain ⟨u', r', q⟩ := hl j y v' e1 e2 e3
        refine ⟨u', r', ?_⟩
        rcases q with ⟨k, e⟩ | ⟨k, c, e, z⟩
        · refine .inl ⟨k, ?_⟩
          have : y ≠ x := fun e => hj (nodup_ix hN e1 (e ▸ hi))
          simp [this, e]
        · exact .inr ⟨k, c, e, z.sameBut hs (cne y c e)⟩
    · obtain ⟨w', z⟩ := I.cell y c e
      exact ⟨w', z.sameBut hs (cne y c e)⟩
    · obtain ⟨e, n, ne, nf, d⟩ := I.pin p hp
      exact ⟨(hs.2 p.1 ne).trans e, n, ne, nf, d⟩
  · have hfn : X.fn x = true := by
      rcases hf with z | z
      · exact z
      · rw [z] at hk; cases hk
    obtain ⟨c, hc⟩ := I.ok.has x (.inl hk)
    obtain ⟨w', z⟩ := I.cell x c hc
    refine wpAny_storeName_cell I.ok.kind hk hc z (fun h' hc' hs => ?_)
    obtain ⟨oc, hoc, hocd⟩ := id z
    refine h { s with heap := h' } ⟨I.ok, I.os, I.bare, ⟨fun b o e n hb hx => ?_, fun b o e n hb hx => ?_, I.base.free, fun b o e hx => ?_, I.base.tups, I.base.frzs, I.base.tbls⟩, ⟨m, hn.sameBut hs (Ne.symm (cne x c hc)), fun j y v' e1 e2 e3 => ?_⟩, fun y c' e => ?_, I.free, I.freeC, fun p hp => ?_, tracked ⟨oc, hoc, I.freeC x c hc⟩ hs, by simpa using I.len⟩ ⟨c, hs, .inr hc⟩
    · exact (hs.2 b (Nat.ne_of_lt (Nat.lt_of_lt_of_le (Heap.lt_size e) (I.ok.cab x c hfn hc)))).trans (I.base.keep b o e n hb hx)
    · obtain ⟨sl, e1⟩ := I.base.slot b o e n hb hx
      exact ⟨sl, (hs.2 b (Nat.ne_of_lt (Nat.lt_of_lt_of_le (Heap.lt_size e) (I.ok.cab x c hfn hc)))).trans e1⟩
    · obtain ⟨o', e1⟩ := I.base.there b o e hx
      exact ⟨o', (hs.2 b (Nat.ne_of_lt (Nat.lt_of_lt_of_le (Heap.lt_size e) (I.ok.cab x c hfn hc)))).trans e1⟩
    · by_cases hj : j = i
      · subst hj
        rw [hi] at e1; cases e1
        rw [List.getElem?_set_self hiσ] at e2
        cases e2
        exact ⟨u, r, .inr ⟨.inl hk, c, hc, hc'⟩⟩
      · rw [List.getElem?_set_ne (Ne.symm hj)] at e2
        obtain ⟨u', r', q⟩ := hl j y v' e1 e2 e3
        refine ⟨u', r', ?_⟩
        rcases q with q | ⟨k, c', e, z'⟩
        · exact .inl q
        · refine .inr ⟨k, c', e, z'.sameBut hs ?_⟩
          rintro rfl
          exact hj (nodup_ix hN e1 (I.ok.inj _ _ _ e hc ▸ hi))
    · by_cases hcc : c' = c
      · subst hcc; exact ⟨_, hc'⟩
      · obtain ⟨w2, z2⟩ := I.cell y c' e
        exact ⟨w2, z2.sameBut hs hcc⟩
    · obtain ⟨e, n, ne, nf, d⟩ := I.pin p hp
      refine ⟨(hs.2 p.1 ?_).trans e, n, ne, nf, d⟩
      intro q
      rw [q, hoc] at e
      have q' : oc = p.2 := Option.some.inj e
      exact d w' (by rw [← q']; exact hocd)
theorem store_ok {M : Model} {A : Around} {E : Value → Shared → Prop} {i : Nat} {x : Str} {v : V} {u : Value} {Q : Unit → Shared → Prop} (I : Inv X pins σ H s) (hN : X.N.Nodup) (hi : X.N[i]? = some x) (hx : Loc X.env.scope x) (r : RelV v u)
    (h : ∀ s', Inv X pins (σ.set i (some v)) H s' → Q () s') (hf : X.fn x = true ∨ X.env.scope.names.lookup x = some .local := by first | exact .inl rfl | exact .inr rfl | assumption) : wpAny M A (storeName X.env x u) Q E s :=
  store_ok2 I hN hi hx r (fun s' I' _ => h s' I') hf
/-- behind a call or a block, the state as it is -/
theorem Inv.call' {s' : Shared} {ch : List Addr} (I : Inv X pins σ H s) (ho : s'.os = s.os) (u : Un (frs X.stack) ch H H' s.heap s'.heap) (hok : HOk X.prog X.w H' s'.heap) (hg : AllBare s'.gens)
    (hch : ∀ b ∈ ch, (b ∈ X.ex ∨ X.s₀.heap.objs.size ≤ b) ∧ b ≠ X.env.locals ∧ (∀ x c, X.env.cells.lookup x = some c → c ≠ b) ∧ ∀ p ∈ X.pn ++ pins, p.1 ≠ b) : Inv X pins σ H' s' := by
  obtain ⟨h', g', d', t', o'⟩ := s'
  have e : o' = s.os := ho
  subst e
  exact I.call (g' := g') (t' := t') (d' := d') u hok hg hch
end

/-! ### the judgements -/
/-- an exception: its class, its own dict's address (where it has one), the abstract heap behind it -/
noncomputable abbrev XK := Value → Option Addr → Hp → Prop
noncomputable abbrev St := List (Option V)
noncomputable abbrev VK := V → Hp → Prop
/-- an expression's reading; a test's; an argument list's -/
noncomputable abbrev TE := St → Hp → VK → Prop
noncomputable abbrev TT := St → Hp → (Bool → Hp → Prop) → Prop
noncomputable abbrev TA := St → Hp → (List V → Hp → Prop) → Prop
/-- what is wanted behind a statement -/
structure Ends where
  nx : St → Hp → Prop
  rt : VK
  bk : St → Hp → Prop := fun _ _ => False
  ct : St → Hp → Prop := fun _ _ => False
noncomputable abbrev TS := Ends → St → Hp → Prop

noncomputable def EP (X : Cx) (pins : List (Addr × Obj)) (σ : St) (Q : VK) (u : Value) (s' : Shared) : Prop := ∃ v H', Inv X pins σ H' s' ∧ RelV v u ∧ Q v H'
noncomputable def TP (X : Cx) (pins : List (Addr × Obj)) (σ : St) (Q : Bool → Hp → Prop) (b : Bool) (s' : Shared) : Prop := ∃ H', Inv X pins σ H' s' ∧ Q b H'
noncomputable def AP (X : Cx) (pins : List (Addr × Obj)) (σ : St) (Q : List V → Hp → Prop) (us : List Value) (s' : Shared) : Prop := ∃ vs H', Inv X pins σ H' s' ∧ Vals vs us ∧ Q vs H'
noncomputable def SP (X : Cx) (pins : List (Addr × Obj)) (D : Ends) (f : Flow) (s' : Shared) : Prop :=
  match f with
  | .next => ∃ σ' H', Inv X pins σ' H' s' ∧ D.nx σ' H'
  | .brk => ∃ σ' H', Inv X pins σ' H' s' ∧ D.bk σ' H'
  | .cont => ∃ σ' H', Inv X pins σ' H' s' ∧ D.ct σ' H'
  | .ret u => ∃ v σ' H', Inv X pins σ' H' s' ∧ RelV v u ∧ D.rt v H'

noncomputable def PE (X : Cx) (e : Expr) (t : TE) : Prop :=
  ∀ (pins : List (Addr × Obj)) (s : Shared) (σ : St) (H : Hp) (Q : VK), Inv X pins σ H s → t σ H Q → wpAny (model X.prog X.w) X.A (eval e X.env) (EP X pins σ Q) X.xe s
noncomputable def PT (X : Cx) (e : Expr) (t : TT) : Prop :=
  ∀ (pins : List (Addr × Obj)) (s : Shared) (σ : St) (H : Hp) (Q : Bool → Hp → Prop), Inv X pins σ H s → t σ H Q → wpAny (model X.prog X.w) X.A (isTrue e X.env (eval e X.env)) (TP X pins σ Q) X.xe s
/-- a test whatever its 'whole' is (and, or) -/
noncomputable def PW (X : Cx) (e : Expr) (t : TT) : Prop :=
  ∀ (whole : Sem Value) (pins : List (Addr × Obj)) (s : Shared) (σ : St) (H : Hp) (Q : Bool → Hp → Prop), Inv X pins σ H s → t σ H Q → wpAny (model X.prog X.w) X.A (isTrue e X.env whole) (TP X pins σ Q) X.xe s
theorem PW.pt {X : Cx} {e : Expr} {t : TT} (h : PW X e t) : PT X e t := h _
/-- an argument list (no star), from the left -/
noncomputable def PA (X : Cx) (es : List Expr) (t : TA) : Prop :=
  ∀ (pos : Pos) (pins : List (Addr × Obj)) (s : Shared) (σ : St) (H : Hp) (Q : List V → Hp → Prop), Inv X pins σ H s → t σ H Q → wpAny (model X.prog X.w) X.A (spliced (backTo pos (starEach es X.env))) (AP X pins σ Q) X.xe s
noncomputable def PS (X : Cx) (st : Stmt) (t : TS) : Prop :=
  ∀ (pins : List (Addr × Obj)) (s : Shared) (σ : St) (H : Hp) (D : Ends), Inv X pins σ H s → t D σ H → wpAny (model X.prog X.w) X.A (exec st X.env) (SP X pins D) X.xe s
noncomputable def PSs (X : Cx) (st : List Stmt) (t : TS) : Prop :=
  ∀ (pins : List (Addr × Obj)) (s : Shared) (σ : St) (H : Hp) (D : Ends), Inv X pins σ H s → t D σ H → wpAny (model X.prog X.w) X.A (execs st X.env) (SP X pins D) X.xe s
/-- weaken the end -/
theorem thn {α : Type} {t : Sem α} {Q Q' : α → Shared → Prop} {M : Model} {A : Around} {E : Value → Shared → Prop} {s : Shared} (h : wpAny M A t Q E s) (hQ : ∀ a s, Q a s → Q' a s) : wpAny M A t Q' E s := wpAny_mono h hQ fun _ _ x => x
end L2

namespace L2
open PySem PySem.Spec PyProof.Rows
section
variable {X : Cx}

/-! ### names and constants -/
inductive I_tVar (i : Nat) (σ : St) (H : Hp) (Q : VK) : Prop where
  | mk (v : V) (h0_ : σ[i]? = some (some v)) (h1_ : Q v H) : I_tVar i σ H Q
noncomputable def tVar (i : Nat) : TE := fun σ H Q => I_tVar i σ H Q
noncomputable def tC (v : V) : TE := fun _ H Q => Q v H
theorem pe_var {i : Nat} {x : Str} {pos : Pos} (hN : X.N[i]? = some x) (hv : Vis X.env.scope x) (hd : (x == ("__debug__" : Str)) = false := by decide) (hcd : (x == ("__classdict__" : Str)) = false := by decide) : PE X (.Name x pos) (tVar i) := by
  intro pins s σ H Q I h
  obtain ⟨v, e, h⟩ := h
  obtain ⟨m, hn, hl⟩ := I.loc
  obtain ⟨u, r, l⟩ := hl i x v hN e hv
  have fin : EP X pins σ Q u s := ⟨v, H, I, r, h⟩
  rcases l with ⟨hk, hm⟩ | ⟨hk, c, hc, hcell⟩
  · exact wpAny_Name (wpAny_loadName_local I.ok.kind hk hn hm fin) hd
  · rcases hk with hk | hk
    · exact wpAny_Name (wpAny_loadName_cell I.ok.kind hk hc hcell fin) hd
    · exact wpAny_Name (wpAny_loadName_free I.ok.kind hk hc hcell fin hcd) hd
theorem pe_int {i j pos} : PE X (.Constant (.int i) j pos) (tC (.int i)) := fun _ _ _ H _ I h => wpAny_Constant_int ⟨.int i, H, I.tok _, ⟨_, rfl⟩, h⟩
theorem pe_bl {b j pos} : PE X (.Constant (.bool b) j pos) (tC (.bl b)) := fun _ _ _ H _ I h => Constant_bool ⟨.bl b, H, I, rfl, h⟩
theorem pe_non {j pos} : PE X (.Constant .none j pos) (tC .non) := fun _ _ _ H _ I h => Constant_none ⟨.non, H, I, rfl, h⟩
theorem pe_str {x j pos} : PE X (.Constant (.str x) j pos) (tC (.str x)) := fun _ _ _ H _ I h => Calls.Constant_str ⟨.str x, H, I.tok _, ⟨_, rfl⟩, h⟩

/-- a global name of the def -/
noncomputable def Gl (X : Cx) (x : Str) : Prop := X.env.kindOf x = some .globalImplicit
theorem ld_glob {E : Value → Shared → Prop} {pins : List (Addr × Obj)} {s : Shared} {σ : St} {H : Hp} {x : Str} {u : Value} {pos : Pos} {Q : Value → Shared → Prop} (I : Inv X pins σ H s) (hg : Gl X x) (hm : X.mg x = some u) (h : Q u s)
    (hd : (x == ("__debug__" : Str)) = false := by decide) : wpAny (model X.prog X.w) X.A (eval (.Name x pos) X.env) Q E s :=
  Calls.Name_function_global I.ok.kind hg (Calls.loadGlobal_global (by rw [I.ok.glob]; exact I.mod.glob.keeps I.bk) hm h) hd
theorem ld_blt {E : Value → Shared → Prop} {pins : List (Addr × Obj)} {s : Shared} {σ : St} {H : Hp} {x : Str} {u : Value} {pos : Pos} {Q : Value → Shared → Prop} (I : Inv X pins σ H s) (hg : Gl X x) (hm : X.mg x = none) (hv : bootBuiltins x = some u) (h : Q u s)
    (hn : x ≠ "__name__" := by decide) (hd : (x == ("__debug__" : Str)) = false := by decide) : wpAny (model X.prog X.w) X.A (eval (.Name x pos) X.env) Q E s := by
  obtain ⟨mb, h1, h2⟩ := I.mod.blt
  exact Calls.Name_function_global I.ok.kind hg (Calls.loadGlobal_builtin (by rw [I.ok.glob]; exact I.mod.glob.keeps I.bk) hm (by rw [I.ok.blt]; exact h1.keeps I.bk) ((h2 x hn).trans hv) h) hd
/-- a module's constant, a class, a function, as a value -/
theorem pe_glob {x : Str} {v : V} {u : Value} {pos : Pos} (hg : Gl X x) (hm : X.mg x = some u) (r : RelV v u) (hd : (x == ("__debug__" : Str)) = false := by decide) : PE X (.Name x pos) (tC v) :=
  fun _ _ _ H _ I h => ld_glob I hg hm ⟨v, H, I, r, h⟩ hd
theorem pe_bltn {x : Str} {v : V} {u : Value} {pos : Pos} (hg : Gl X x) (hm : X.mg x = none) (hv : bootBuiltins x = some u) (r : RelV v u) (hn : x ≠ "__name__" := by decide) (hd : (x == ("__debug__" : Str)) = false := by decide) : PE X (.Name x pos) (tC v) :=
  fun _ _ _ H _ I h => ld_blt I hg hm hv ⟨v, H, I, r, h⟩ hn hd

/-! ### arithmetic -/
variable {a b : Expr} {ta tb : TE} {pos : Pos}
/-! ### comparisons -/
theorem RelV.none_iff {x : V} {v : Value} (r : RelV x v) : (v == Value.none) = decide (x = .non) := by
  cases x with
  | non => cases r; rfl
  | bl _ => cases r; rfl
  | int _ => obtain ⟨t, rfl⟩ := r; rfl
  | str _ => obtain ⟨t, rfl⟩ := r; rfl
  | byt _ => obtain ⟨t, rfl⟩ := r; rfl
  | flt _ => obtain ⟨t, rfl⟩ := r; rfl
  | ref _ => cases r; rfl
  | ty _ => cases r; rfl
/-- a comparison as a value, as a test -/
inductive I_tB (x : V) (H1 : Hp) (Q : Bool → Hp → Prop) : Prop where
  | mk (c : Bool) (h0_ : x = .bl c) (h1_ : Q c H1) : I_tB x H1 Q
noncomputable def tB (t : TE) : TT := fun σ H Q => t σ H fun x H1 => I_tB x H1 Q
/-- an expression whose value is a bool, as a test -/
theorem pt_val {e : Expr} {t : TE} (h : PE X e t) (he : ∀ whole, isTrue e X.env whole = (do let v ← whole; standAt e.pos; holding [v] (truthy v)) := by intro _; rfl) : PT X e (tB t) := by
  intro pins s σ H Q I hw
  refine isTrue_plain (thn (h pins s σ H _ I hw) fun v s1 ⟨x, H1, I1, r1, q1⟩ => ?_) (he _)
  obtain ⟨d, rfl, q⟩ := q1
  cases r1
  exact wpAny_truthy_bool ⟨H1, I1, q⟩

/-! ### and, or, not -/
variable {tA tB' : TT} {rest : List Expr}
noncomputable def tAnd (t u : TT) : TT := fun σ H Q => t σ H fun c H1 => if c = true then u σ H1 Q else Q false H1
noncomputable def tOr (t u : TT) : TT := fun σ H Q => t σ H fun c H1 => if c = true then Q true H1 else u σ H1 Q
noncomputable def tNot (t : TT) : TT := fun σ H Q => t σ H fun c H1 => Q (!c) H1
theorem pw_and1 (ha : PT X a tA) : PW X (.BoolOp .And [a] pos) tA := by
  intro wh pins s σ H Q I h
  refine isTrue_and (thn (ha pins s σ H Q I h) fun c s1 e => ?_)
  cases c with
  | true => exact isTrue_and_nil e
  | false => exact e
theorem pw_or1 (ha : PT X a tA) : PW X (.BoolOp .Or [a] pos) tA := by
  intro wh pins s σ H Q I h
  refine isTrue_or (thn (ha pins s σ H Q I h) fun c s1 e => ?_)
  cases c with
  | false => exact isTrue_or_nil e
  | true => exact e
theorem pw_and (ha : PT X a tA) (hb : PW X (.BoolOp .And (b :: rest) pos) tB') : PW X (.BoolOp .And (a :: b :: rest) pos) (tAnd tA tB') := by
  intro wh pins s σ H Q I h
  refine isTrue_and (thn (ha pins s σ H _ I h) fun c s1 ⟨H1, I1, q1⟩ => ?_)
  cases c with
  | true => exact hb wh pins s1 σ H1 Q I1 q1
  | false => exact ⟨H1, I1, q1⟩
theorem pw_or (ha : PT X a tA) (hb : PW X (.BoolOp .Or (b :: rest) pos) tB') : PW X (.BoolOp .Or (a :: b :: rest) pos) (tOr tA tB') := by
  intro wh pins s σ H Q I h
  refine isTrue_or (thn (ha pins s σ H _ I h) fun c s1 ⟨H1, I1, q1⟩ => ?_)
  cases c with
  | true => exact ⟨H1, I1, q1⟩
  | false => exact hb wh pins s1 σ H1 Q I1 q1
theorem pt_not (ha : PT X a tA) : PT X (.UnaryOp .Not a pos) (tNot tA) := by
  intro pins s σ H Q I h
  exact isTrue_not (ha pins s σ H (fun c H1 => Q (!c) H1) I h)
/-- .. as values (bools) -/
noncomputable def tAndV (ta tb : TE) : TE := fun σ H Q => ta σ H fun x H1 => ∃ c, x = .bl c ∧ if c = true then tb σ H1 Q else Q (.bl false) H1
theorem pe_one {op} {t : TE} (h : PE X a t) : PE X (.BoolOp op [a] pos) t := fun pins s σ H Q I hw => BoolOp_one (h pins s σ H Q I hw)
theorem pe_and (ha : PE X a ta) (hb : PE X (.BoolOp .And (b :: rest) pos) tb) : PE X (.BoolOp .And (a :: b :: rest) pos) (tAndV ta tb) := by
  intro pins s σ H Q I h
  refine BoolOp_and (thn (ha pins s σ H _ I h) fun v s1 ⟨x, H1, I1, r1, q1⟩ => ?_)
  obtain ⟨c, rfl, q1⟩ := q1
  cases r1
  refine wpAny_truthy_bool ?_
  cases c with
  | true => exact hb pins s1 σ H1 Q I1 q1
  | false => exact ⟨.bl false, H1, I1, rfl, q1⟩
/-- a if t else b -/
noncomputable def tIf (t : TT) (ta tb : TE) : TE := fun σ H Q => t σ H fun c H1 => if c = true then ta σ H1 Q else tb σ H1 Q
theorem pe_ifExp {c : Expr} (hc : PT X c tA) (ha : PE X a ta) (hb : PE X b tb) : PE X (.IfExp c a b pos) (tIf tA ta tb) := by
  intro pins s σ H Q I h
  refine wpAny_IfExp (thn (hc pins s σ H _ I h) fun d s1 ⟨H1, I1, q1⟩ => ?_)
  cases d with
  | true => exact ha pins s1 σ H1 Q I1 q1
  | false => exact hb pins s1 σ H1 Q I1 q1
end
end L2

namespace L2
open PySem PySem.Spec PyProof.Rows

/-! ### a list, a tuple that is read: tracked, frozen, or an object of the module -/
noncomputable def SqL (K : PySem.W.Frag) (H : Hp) (a : Addr) (xs : List V) : Prop :=
  Rd H a (.lst xs) ∨
    ∃ (o : Obj) (its : Array Value) (n : Nat), K.lookup a = some o ∧ o.cls = .type "list" ∧ o.dict = none ∧ o.data = .seq its n ∧ its.size ≤ sizeLine ∧ Vals xs its.toList
noncomputable def SqT (K : PySem.W.Frag) (H : Hp) (a : Addr) (xs : List V) : Prop :=
  Rd H a (.tup xs) ∨
    ∃ (o : Obj) (its : Array Value) (n : Nat), K.lookup a = some o ∧ o.cls = .type "tuple" ∧ o.data = .seq its n ∧ its.size ≤ sizeLine ∧ Vals xs its.toList
noncomputable def absV : Value → Option V
  | .none => some .non
  | .bool b => some (.bl b)
  | .int i _ => some (.int i)
  | .str x _ => some (.str x)
  | .bytes b _ => some (.byt b)
  | .float b _ => some (.flt b)
  | .ref a => some (.ref a)
  | .type n => some (.ty n)
  | _ => none
theorem RelV.abs {x : V} {u : Value} (r : RelV x u) : absV u = some x := by
  cases x with
  | non => cases r; rfl
  | bl _ => cases r; rfl
  | int _ => obtain ⟨t, rfl⟩ := r; rfl
  | str _ => obtain ⟨t, rfl⟩ := r; rfl
  | byt _ => obtain ⟨t, rfl⟩ := r; rfl
  | flt _ => obtain ⟨t, rfl⟩ := r; rfl
  | ref _ => cases r; rfl
  | ty _ => cases r; rfl
theorem RelV.inj {x y : V} {u : Value} (r : RelV x u) (q : RelV y u) : x = y := Option.some.inj (r.abs.symm.trans q.abs)
theorem Vals.inj : ∀ {xs ys : List V} {us : List Value}, Vals xs us → Vals ys us → xs = ys
  | _, _, _, .nil, .nil => rfl
  | _, _, _, .cons r t, .cons r' t' => by rw [r.inj r', Vals.inj t t']
section
variable {X : Cx} {pins : List (Addr × Obj)} {σ : St} {H : Hp} {s : Shared} {a : Addr} {xs ys : List V}
theorem SqL.of {K : PySem.W.Frag} (h : H a = some (.lst xs)) : SqL K H a xs := .inl (.inl h)
theorem SqT.of {K : PySem.W.Frag} (h : H a = some (.tup xs)) : SqT K H a xs := .inl (.inl h)
theorem Inv.list (I : Inv X pins σ H s) (h : SqL X.K H a xs) : ∃ its : List Value, Vals xs its ∧ PlainL s.heap a its.toArray ∧ xs.length ≤ sizeLine := by
  rcases h with h | ⟨o, its, n, hk, hc, hd, hs, hz, r⟩
  · obtain ⟨z, its, n, r, e⟩ := h.ok I.hok
    exact ⟨its, r, ⟨_, n, e, rfl, rfl, rfl⟩, z⟩
  · refine ⟨its.toList, r, ⟨o, n, I.kIn a o hk, hc, hd, by simpa using hs⟩, ?_⟩
    have e := r.length
    simp only [Array.length_toList] at e
    (first | lia | omega)
theorem Inv.tuple (I : Inv X pins σ H s) (h : SqT X.K H a xs) : ∃ its : List Value, Vals xs its ∧ IsTup s.heap a its.toArray ∧ xs.length ≤ sizeLine := by
  rcases h with h | ⟨o, its, n, hk, hc, hs, hz, r⟩
  · obtain ⟨z, its, r, p⟩ := h.ok I.hok
    exact ⟨its, r, p, z⟩
  · refine ⟨its.toList, r, ⟨o, I.kIn a o hk, hc, n, by simpa using hs⟩, ?_⟩
    have e := r.length
    simp only [Array.length_toList] at e
    (first | lia | omega)
theorem Inv.list_inj (I : Inv X pins σ H s) (h : SqL X.K H a xs) (h' : SqL X.K H a ys) : xs = ys := by
  obtain ⟨its, r, ⟨o, n, e, _, _, d⟩, _⟩ := I.list h
  obtain ⟨its', r', ⟨o', n', e', _, _, d'⟩, _⟩ := I.list h'
  rw [e] at e'; cases e'
  rw [d] at d'
  injection d' with d1 _
  have : its = its' := by simpa using congrArg Array.toList d1
  subst this
  exact r.inj r'
end

/-! ### another wish about exceptions -/
noncomputable abbrev Cx.wish (X : Cx) (E : Value → Shared → Prop) : Cx := { X with xe := E }
/-- no exception leaves -/
noncomputable abbrev Cx.nox (X : Cx) : Cx := X.wish fun _ _ => False
theorem Cx.Ok.wish {X : Cx} (ok : X.Ok) (E : Value → Shared → Prop) : (X.wish E).Ok :=
  ⟨ok.mod, ok.kind, ok.glob, ok.blt, ok.above, ok.inj, ok.has, ok.cab, ok.hd, ok.frames, ok.stk, ok.exf, ok.bs, ok.bsz, ok.noex, ok.exfs, ok.funs, ok.frf⟩
theorem Cx.Ok.unwish {X : Cx} {E : Value → Shared → Prop} (ok : (X.wish E).Ok) : X.Ok :=
  ⟨ok.mod, ok.kind, ok.glob, ok.blt, ok.above, ok.inj, ok.has, ok.cab, ok.hd, ok.frames, ok.stk, ok.exf, ok.bs, ok.bsz, ok.noex, ok.exfs, ok.funs, ok.frf⟩
section
variable {X : Cx} {pins : List (Addr × Obj)} {σ : St} {H : Hp} {s : Shared} {E : Value → Shared → Prop}
theorem Inv.wish (I : Inv X pins σ H s) (E : Value → Shared → Prop) : Inv (X.wish E) pins σ H s := ⟨I.ok.wish E, I.os, I.bare, I.base, I.loc, I.cell, I.free, I.freeC, I.pin, I.hok, I.len⟩
theorem Inv.unwish (I : Inv (X.wish E) pins σ H s) : Inv X pins σ H s := ⟨I.ok.unwish, I.os, I.bare, I.base, I.loc, I.cell, I.free, I.freeC, I.pin, I.hok, I.len⟩
theorem SP.unwish {D : Ends} {f : Flow} {s' : Shared} (h : SP (X.wish E) pins D f s') : SP X pins D f s' := by
  cases f with
  | next => obtain ⟨σ', H', I, q⟩ := h; exact ⟨σ', H', I.unwish, q⟩
  | brk => obtain ⟨σ', H', I, q⟩ := h; exact ⟨σ', H', I.unwish, q⟩
  | cont => obtain ⟨σ', H', I, q⟩ := h; exact ⟨σ', H', I.unwish, q⟩
  | ret u => obtain ⟨v, σ', H', I, r, q⟩ := h; exact ⟨v, σ', H', I.unwish, r, q⟩
theorem PT.nox {e : Expr} {t : TT} (h : PT X.nox e t) : PT X e t := fun pins s σ H Q I hw =>
  wpAny_mono (h pins s σ H Q (I.wish _) hw) (fun _ _ ⟨H', I', q⟩ => ⟨H', I'.unwish, q⟩) fun _ _ z => False.elim z
theorem PSs.nox {st : List Stmt} {t : TS} (h : PSs X.nox st t) : PSs X st t := fun pins s σ H D I hw =>
  wpAny_mono (h pins s σ H D (I.wish _) hw) (fun _ _ q => q.unwish) fun _ _ z => False.elim z
end

/-! ### blocks and small statements -/
section
variable {X : Cx} {st : Stmt} {rest : List Stmt} {t u : TS} {e : Expr} {te : TE} {pos : Pos}
noncomputable def tNext : TS := fun D σ H => D.nx σ H
noncomputable def tSeq (t u : TS) : TS := fun D σ H => t { D with nx := u D } σ H
theorem pss_nil : PSs X [] tNext := fun _ _ σ H _ I h => wpAny_execs_nil ⟨σ, H, I, h⟩
theorem pss_cons (h1 : PS X st t) (h2 : PSs X rest u) : PSs X (st :: rest) (tSeq t u) := by
  intro pins s σ H D I h
  refine wpAny_execs_cons (thn (h1 pins s σ H { D with nx := u D } I h) fun f s1 q => ?_)
  cases f with
  | next =>
    obtain ⟨σ', H', I', q⟩ := q
    exact h2 pins s1 σ' H' D I' q
  | ret v => exact q
  | brk => exact q
  | cont => exact q
theorem pss_one (h1 : PS X st t) : PSs X [st] t := by
  intro pins s σ H D I h
  refine wpAny_execs_cons (thn (h1 pins s σ H D I h) fun f s1 q => ?_)
  cases f with
  | next => exact wpAny_execs_nil q
  | ret v => exact q
  | brk => exact q
  | cont => exact q
/-- in a def's body nothing is shown -/
theorem Inv.quiet {pins : List (Addr × Obj)} {σ : St} {H : Hp} {s : Shared} (I : Inv X pins σ H s) : interactive X.env = false := by simp [interactive, I.ok.kind]
/-- an expression whose value is dropped -/
noncomputable def tDrop (te : TE) : TS := fun D σ H => te σ H fun _ H1 => D.nx σ H1
theorem ps_expr (he : PE X e te) (hs : swapsWith e none pos.line X.env = pure false := by rfl) : PS X (.Expr e pos) (tDrop te) := by
  intro pins s σ H D I h
  exact wpAny_Expr_any (thn (he pins s σ H _ I h) fun v s1 ⟨x, H1, I1, r1, q1⟩ => ⟨σ, H1, I1, q1⟩) I.quiet hs
noncomputable def tRet (te : TE) : TS := fun D σ H => te σ H D.rt
theorem ps_ret (he : PE X e te) : PS X (.Return (some e) pos) (tRet te) := by
  intro pins s σ H D I h
  exact wpAny_Return_some (thn (he pins s σ H _ I h) fun v s1 ⟨x, H1, I1, r1, q1⟩ => ⟨x, σ, H1, I1, r1, q1⟩)
noncomputable def tIfS (c : TT) (t u : TS) : TS := fun D σ H => c σ H fun b H1 => if b = true then t D σ H1 else u D σ H1
theorem ps_if {c : Expr} {a b : List Stmt} {tc : TT} (hc : PT X c tc) (ha : PSs X a t) (hb : PSs X b u) : PS X (.If c a b pos) (tIfS tc t u) := by
  intro pins s σ H D I h
  refine wpAny_If (thn (hc pins s σ H _ I h) fun d s1 ⟨H1, I1, q1⟩ => ?_)
  cases d with
  | true => exact ha pins s1 σ H1 D I1 q1
  | false => exact hb pins s1 σ H1 D I1 q1
end

/-! ### targets -/
noncomputable abbrev TG := V → St → Hp → (St → Hp → Prop) → Prop
noncomputable def PG (X : Cx) (target : Expr) (t : TG) : Prop :=
  ∀ (pins : List (Addr × Obj)) (s : Shared) (σ : St) (H : Hp) (v : V) (u : Value) (Q : St → Hp → Prop), Inv X pins σ H s → RelV v u → t v σ H Q →
    wpAny (model X.prog X.w) X.A (assign target X.env u) (fun _ s' => ∃ σ' H', Inv X pins σ' H' s' ∧ Q σ' H') X.xe s
section
variable {X : Cx} {pos : Pos}
noncomputable def gName (i : Nat) : TG := fun v σ H Q => Q (σ.set i (some v)) H
theorem pg_name {i : Nat} {x : Str} (hN : X.N.Nodup) (hi : X.N[i]? = some x) (hx : Loc X.env.scope x) (hf : X.fn x = true ∨ X.env.scope.names.lookup x = some .local := by first | exact .inl rfl | exact .inr rfl | assumption) : PG X (.Name x pos) (gName i) := by
  intro pins s σ H v u Q I r h
  exact wpAny_assign_Name (store_ok I hN hi hx r (fun s' I' => ⟨_, H, I', h⟩) hf)
/-- target = value -/
noncomputable def tAsg (te : TE) (g : TG) : TS := fun D σ H => te σ H fun x H1 => g x σ H1 D.nx
/-- name = value -/
theorem ps_set {i : Nat} {x : Str} {e : Expr} {te : TE} {pos' : Pos} (hN : X.N.Nodup) (hi : X.N[i]? = some x) (hx : Loc X.env.scope x) (he : PE X e te) (hs : swapsWith e (some (.Name x pos')) pos.line X.env = pure false := by rfl) (hf : X.fn x = true ∨ X.env.scope.names.lookup x = some .local := by first | exact .inl rfl | exact .inr rfl | assumption) :
    PS X (.Assign [.Name x pos'] e pos) (tAsg te (gName i)) := by
  intro pins s σ H D I h
  refine wpAny_Assign_Name (thn (he pins s σ H _ I h) fun v s1 ⟨y, H1, I1, r1, q1⟩ => ?_) hs
  exact store_ok I1 hN hi hx r1 (fun s2 I2 => ⟨_, H1, I2, q1⟩) hf
/-- a, b = x, y with plain local names: stored from the right; the pair itself is not tracked (the opening rows as in PyProof/Rows/TupAssign.lean:23) -/
noncomputable def tPar (i j : Nat) (ta : TA) : TS := fun D σ H => ta σ H fun vs H1 => ∃ v w, vs = [v, w] ∧ D.nx ((σ.set i (some v)).set j (some w)) H1
theorem ps_par {i j : Nat} {x y : Str} {a b : Expr} {ta : TA} {px py pt : Pos} {kt k2 pt2} (hc : X.calm = true) (hN : X.N.Nodup) (hi : X.N[i]? = some x) (hj : X.N[j]? = some y) (hij : i ≠ j)
    (hx : X.env.scope.names.lookup x = some .local) (hy : X.env.scope.names.lookup y = some .local) (ha : PA X [a, b] ta)
    (hw : swappedStores [.Tuple [.Name x px, .Name y py] kt pt] (.Tuple [a, b] k2 pt2) X.env = pure (some [x, y]))
    (hs : swapsWithSole [.Tuple [.Name x px, .Name y py] kt pt] (.Tuple [a, b] k2 pt2) pos.line X.env = pure false := by rfl) :
    PS X (.Assign [.Tuple [.Name x px, .Name y py] kt pt] (.Tuple [a, b] k2 pt2) pos) (tPar i j ta) := by
  intro pins s σ H D I h
  rw [exec_Assign_arm]
  refine wpAny_bind (wpAny_standAt ?_)
  rw [hs]
  refine wpAny_bind (wpAny_pure ?_)
  rw [if_neg (by decide)]
  refine wpAny_bind (Tuple_ (thn (ha _ pins s σ H _ I h) fun us s1 ⟨vs, H1, I1, r1, q1⟩ => ?_))
  obtain ⟨v, w, e1, q1⟩ := q1
  subst e1
  obtain ⟨u1, u2, rfl, rv, rw'⟩ : ∃ u1 u2, us = [u1, u2] ∧ RelV v u1 ∧ RelV w u2 := by
    cases r1 with
    | cons p q =>
      cases q with
      | cons p' q' =>
        cases q'
        exact ⟨_, _, rfl, p, p'⟩
  refine wpAny_newObj_type ?_ (by show 2 ≤ sizeLine; decide)
  have I2 : Inv X pins σ H1 { s1 with heap := s1.heap.push { cls := .type "tuple", data := .seq [u1, u2].toArray } } := I1.kept (t' := s1.toks) fun b o e => Heap.get?_push_of_some _ e
  rw [hw]
  refine wpAny_bind (wpAny_pure ?_)
  show wpAny (model X.prog X.w) X.A (do rule "assign.swapped-stores"; let items ← unpackItems (.ref s1.heap.objs.size) 2 none; assignInOrder [fun v => bindName X.env y v, fun v => bindName X.env x v] items.reverse; pure Flow.next) _ _ _
  refine wpAny_bind (wpAny_rule (wpAny_bind (unpackItems_tuple (items := #[u1, u2]) (I.ok.hd hc) (IsTup.new s1.heap _) fun h' hx' => ?_)))
  have I3 := I2.kept (h' := h') (t' := s1.toks) fun b o e => hx' b o (Nat.ne_of_lt (Heap.lt_size e)) e
  show wpAny _ _ (assignInOrder [fun v => bindName X.env y v, fun v => bindName X.env x v] [u2, u1] >>= fun _ => pure Flow.next) _ _ _
  refine wpAny_bind (assignInOrder_cons (wpAny_bindName (store_ok I3 hN hj (.inl hy) rw' (fun s2 I4 => ?_) (.inr hy))))
  refine assignInOrder_cons (wpAny_bindName (store_ok I4 hN hi (.inl hx) rv (fun s3 I5 => assignInOrder_nil (wpAny_pure ?_)) (.inr hx)))
  rw [List.set_comm _ _ (Ne.symm hij)] at I5
  exact ⟨_, H1, I5, q1⟩
end

/-! ### while -/
section
variable {X : Cx} {pos : Pos}
/-- the invariant W with its measure -/
noncomputable def tWhile (c : TT) (tb : TS) : TS := fun D σ H => ∃ W : Nat → St → Hp → Prop, (∃ m, W m σ H) ∧ ∀ m σ H, W m σ H →
  c σ H fun b H1 => if b = true then ∃ N : St → Hp → Prop, (∀ σ' H', N σ' H' → ∃ m', m' < m ∧ W m' σ' H') ∧ tb { D with nx := N, ct := N, bk := D.nx } σ H1 else D.nx σ H1
theorem ps_while {c : Expr} {body : List Stmt} {tc : TT} {tb : TS} (hp : PassesOwn (model X.prog X.w) X.A X.env X.xe) (hc : PT X c tc) (hb : PSs X body tb) : PS X (.While c body [] pos) (tWhile tc tb) := by
  intro pins s σ H D I h
  obtain ⟨W, ⟨m0, w0⟩, turn⟩ := h
  refine wpAny_While (codeAny_whileLoop (fun n s' => ∃ σ' H', Inv X pins σ' H' s' ∧ W n σ' H') ?_ m0 ⟨σ, H, I, w0⟩)
  rintro n s1 ⟨σ1, H1, I1, w1⟩
  refine wpAny_passesOwn hp (thn (hc pins s1 σ1 H1 _ I1 (turn n σ1 H1 w1)) fun b s2 ⟨H2, I2, q2⟩ => ?_)
  cases b with
  | true =>
    obtain ⟨N, hN, q2⟩ := q2
    rw [if_pos rfl]
    refine wpAny_passesOwn hp (thn (hb pins s2 σ1 H2 _ I2 q2) fun f s3 q3 => ?_)
    cases f with
    | next =>
      obtain ⟨σ3, H3, I3, n3⟩ := q3
      obtain ⟨m', hm, w3⟩ := hN σ3 H3 n3
      exact ⟨m', hm, σ3, H3, I3, w3⟩
    | cont =>
      obtain ⟨σ3, H3, I3, n3⟩ := q3
      obtain ⟨m', hm, w3⟩ := hN σ3 H3 n3
      exact ⟨m', hm, σ3, H3, I3, w3⟩
    | brk => exact q3
    | ret v => exact q3
  | false =>
    rw [if_neg Bool.false_ne_true]
    exact wpAny_execs_nil ⟨σ1, H2, I2, q2⟩
end

/-! ### what a loop or a comprehension walks -/
/-- at turn i: it yields x (the heap may grow), or it stops -/
structure It where
  go : Nat → Hp → Prop
  yld : Nat → Hp → V → Hp → Prop
  stop : Nat → Hp → Prop
/-- the iterator's own objects may turn: they are not the frame's, not pinned, younger than the entry (or a comprehension's own) -/
noncomputable def FpOk (X : Cx) (pins : List (Addr × Obj)) (H : Hp) (b : Addr) : Prop :=
  H b = none ∧ b ≠ X.env.locals ∧ b ∉ X.fs ∧ (b ∈ X.ex ∨ X.s₀.heap.objs.size ≤ b) ∧ (∀ x c, X.env.cells.lookup x = some c → c ≠ b) ∧ ∀ p ∈ X.pn ++ pins, p.1 ≠ b
theorem Inv.fpOk {X : Cx} {pins : List (Addr × Obj)} {σ : St} {H H' : Hp} {s : Shared} {b : Addr} (I : Inv X pins σ H s) (hb : s.heap.objs.size ≤ b) (hn : H' b = none) : FpOk X pins H' b := by
  refine ⟨hn, Nat.ne_of_gt (Nat.lt_of_lt_of_le I.lt hb), I.nofs hb, .inr (Nat.le_trans I.sz hb), fun x c e z => ?_, fun p hp z => ?_⟩
  · obtain ⟨v, q⟩ := I.cell x c e
    exact absurd (Nat.lt_of_lt_of_le q.lt (by rw [z]; exact hb)) (Nat.lt_irrefl _)
  · exact absurd (Nat.lt_of_lt_of_le (Heap.lt_size (I.pin p hp).1) (by rw [z]; exact hb)) (Nat.lt_irrefl _)
structure Turn (P : Program) (w : World) (K : PySem.W.Frag) (tg : Expr) (J : It) (fp : List Addr) (it : Addr) (tn : Nat → Heap → Prop) : Prop where
  mem : it ∈ fp
  obj : ∀ i h, tn i h → ∀ b ∈ fp, ∃ o, h.get? b = some o ∧ ∀ v, o.data ≠ .cell v
  keep : ∀ i h h', tn i h → (∀ b ∈ fp, ∀ o, h.get? b = some o → h'.get? b = some o) → tn i h'
  item : ∀ (X : Cx), X.prog = P → X.w = w → X.K = K → X.calm = true → ∀ (i : Nat) (pins : List (Addr × Obj)) (s : Shared) (σ : St) (H : Hp) (E : Value → Shared → Prop), Inv X pins σ H s → (∀ b ∈ fp, FpOk X pins H b) → tn i s.heap → J.go i H →
    wpAny (model P w) X.A (pyNext (.ref it)) (fun r s1 => ∃ u, r = some u ∧
      wpAny (model P w) X.A (letOwnedTupleGo tg (.ref it) u) (fun _ s2 => ∃ x H', Inv X pins σ H' s2 ∧ RelV x u ∧ J.yld i H x H' ∧ tn (i + 1) s2.heap ∧ ∀ b ∈ fp, H' b = none) E s1) E s
  done : ∀ (X : Cx), X.prog = P → X.w = w → X.K = K → X.calm = true → ∀ (i : Nat) (pins : List (Addr × Obj)) (s : Shared) (σ : St) (H : Hp) (E : Value → Shared → Prop), Inv X pins σ H s → (∀ b ∈ fp, FpOk X pins H b) → tn i s.heap → J.stop i H →
    wpAny (model P w) X.A (pyNext (.ref it)) (fun r s1 => r = none ∧ Inv X pins σ H s1) E s
  self : ∀ (A : Around) (i : Nat) (s : Shared) (Q : Value → Shared → Prop) (E : Value → Shared → Prop), tn i s.heap → Q (.ref it) s → wpAny (model P w) A (pyIter (.ref it)) Q E s
noncomputable abbrev TI := St → Hp → (It → Hp → Prop) → Prop
/-- an iterator has come -/
noncomputable def PIE (X : Cx) (pins : List (Addr × Obj)) (σ : St) (tg : Expr) (R : It → Hp → Prop) (itv : Value) (s2 : Shared) : Prop :=
  ∃ (it : Addr) (fp : List Addr) (tn : Nat → Heap → Prop) (J : It) (H' : Hp), itv = .ref it ∧ Inv X pins σ H' s2 ∧ Turn X.prog X.w X.K tg J fp it tn ∧ tn 0 s2.heap ∧ (∀ b ∈ fp, FpOk X pins H' b) ∧ R J H'
noncomputable def PI (X : Cx) (tg iter : Expr) (wi : TI) : Prop :=
  ∀ (pins : List (Addr × Obj)) (s : Shared) (σ : St) (H : Hp) (R : It → Hp → Prop), Inv X pins σ H s → wi σ H R →
    wpAny (model X.prog X.w) X.A (eval iter X.env) (fun v s1 => wpAny (model X.prog X.w) X.A (pyIter v) (PIE X pins σ tg R) X.xe s1) X.xe s

/-- the step ahead of the store is nothing for an iterator that keeps no tuple -/
theorem go_of {M : Model} {A : Around} {E : Value → Shared → Prop} {s : Shared} {tg : Expr} {it : Addr} {u : Value} {o : Obj} {n : String} {vs : Array Value} {Q : Unit → Shared → Prop} (ho : s.heap.get? it = some o) (hc : o.cls = .type n) (hd : o.data = .fields vs)
    (hn : ["enumerate", "zip", "dict_itemiterator", "dict_reverseitemiterator", "odict_iterator", "itertools.zip_longest", "itertools.pairwise"].contains n = false) (hQ : Q () s) : wpAny M A (letOwnedTupleGo tg (.ref it) u) Q E s := by
  unfold letOwnedTupleGo
  cases tg <;> first
    | exact wpAny_pure hQ
    | (cases u <;> first
        | exact wpAny_pure hQ
        | (refine wpAny_bind (wpAny_load ho ?_)
           rw [hc, hd]
           show wpAny M A (if (["enumerate", "zip", "dict_itemiterator", "dict_reverseitemiterator", "odict_iterator", "itertools.zip_longest", "itertools.pairwise"].contains n && vs[0]? == some (rawInt _)) = true then _ else _) Q E s
           rw [if_neg (by intro h; rw [hn, Bool.false_and] at h; cases h)]
           exact wpAny_pure hQ))

/-- the list at a, as it stands at each turn (a loop may append to it) -/
noncomputable def Itl (K : PySem.W.Frag) (a : Addr) : It :=
  ⟨fun i H => ∃ xs x, SqL K H a xs ∧ xs[i]? = some x, fun i H x H' => H' = H ∧ ∀ xs, SqL K H a xs → xs[i]? = some x, fun i H => ∃ xs, SqL K H a xs ∧ xs.length ≤ i⟩
/-- lo, lo + 1, .. (n of them) -/
noncomputable def Itr (lo : Int) (n : Nat) : It := ⟨fun i _ => i < n, fun i H x H' => H' = H ∧ x = .int (lo + i), fun i _ => n ≤ i⟩
theorem turn_list {P : Program} {w : World} {K : PySem.W.Frag} {tg : Expr} (a it : Addr) : Turn P w K tg (Itl K a) [it] it (fun i h => h.IsListIter it a i) where
  mem := by simp
  obj := fun i h st b hb => by
    have e : b = it := by simpa using hb
    subst e
    obtain ⟨o, e, c, d⟩ := st
    exact ⟨o, e, fun v z => by rw [d] at z; cases z⟩
  keep := fun i h h' st k => st.at fun o e => k it (by simp) o e
  item := by
    intro X hP hw hK hc i pins s σ H E I hf st hg
    subst hP hw hK
    obtain ⟨xs, x, hq, hx⟩ := hg
    obtain ⟨its, rv, p, hz⟩ := I.list hq
    obtain ⟨u, hu, ru⟩ := rv.get hx
    obtain ⟨f0, f1, f2, f3, f4, f5⟩ := hf it (by simp)
    refine wpAny_pyNext_list_item st p.isList (x := u) (by simpa using hu) fun h' st' sb => ?_
    have I1 : Inv X pins σ H { s with heap := h' } := I.turned (t' := s.toks) (fun b o hb e => (sb.2 b hb).trans e) f0 f1 f3 f4 f5
    obtain ⟨o, e, c, d⟩ := id st'
    exact ⟨u, rfl, go_of (s := { s with heap := h' }) e c d (by decide) ⟨x, H, I1, ru, ⟨rfl, fun ys hy => by rw [I.list_inj hy hq]; exact hx⟩, st', fun b hb => (hf b hb).1⟩⟩
  done := by
    intro X hP hw hK hc i pins s σ H E I hf st hg
    subst hP hw hK
    obtain ⟨xs, hq, hx⟩ := hg
    obtain ⟨its, rv, p, hz⟩ := I.list hq
    obtain ⟨f0, f1, f2, f3, f4, f5⟩ := hf it (by simp)
    have hl := rv.length
    exact wpAny_pyNext_list_end (I.ok.hd hc) st p.isList (by simp; (first | lia | omega)) fun h' eb => ⟨rfl, I.turned (t' := s.toks) (fun b o hb e => eb b o hb e) f0 f1 f3 f4 f5⟩
  self := fun _ _ _ _ _ st h => wpAny_pyIter_listiter st h
theorem turn_range {P : Program} {w : World} {K : PySem.W.Frag} {tg : Expr} (it : Addr) (lo : Int) (n : Nat) : Turn P w K tg (Itr lo n) [it] it (fun i h => IsRangeIter h it (lo + (i : Nat) * 1) ((n : Int) - (i : Nat)) 1) where
  mem := by simp
  obj := fun i h st b hb => by
    have e : b = it := by simpa using hb
    subst e
    exact ⟨_, st, fun v z => by
      have z' : Data.fields _ = Data.cell v := z
      cases z'⟩
  keep := fun i h h' st k => k it (by simp) _ st
  item := by
    intro X hP hw hK hc i pins s σ H E I hf st hg
    subst hP hw hK
    obtain ⟨f0, f1, f2, f3, f4, f5⟩ := hf it (by simp)
    have W := Walks.range (prog := X.prog) (w := X.w) (I.ok.hd hc) it lo 1 n
    refine W.item i s _ _ hg st fun v h' tk hv st' kk => ?_
    obtain ⟨t, rfl⟩ := hv
    have I1 : Inv X pins σ H { s with heap := h', toks := tk } := I.turned (fun b o hb e => kk b o (by simpa using hb) e) f0 f1 f3 f4 f5
    refine ⟨_, rfl, go_of (s := { s with heap := h', toks := tk }) (n := "range_iterator") st' rfl rfl (by decide) ⟨.int (lo + i), H, I1, ⟨t, ?_⟩, ⟨rfl, rfl⟩, st', fun b hb => (hf b hb).1⟩⟩
    rw [Int.mul_one]
  done := by
    intro X hP hw hK hc i pins s σ H E I hf st hg
    subst hP hw hK
    obtain ⟨f0, f1, f2, f3, f4, f5⟩ := hf it (by simp)
    exact wpAny_pyNext_range_end (I.ok.hd hc) st (by have : n ≤ i := hg; (first | lia | omega)) fun h' eb => ⟨rfl, I.turned (t' := s.toks) (fun b o hb e => eb b o hb e) f0 f1 f3 f4 f5⟩
  self := fun _ _ _ _ _ st h => wpAny_pyIter_rangeiter st h
end L2

namespace L2
open PySem PySem.Spec PyProof.Rows
section
variable {X : Cx} {tg : Expr}
inductive I_iList (K : PySem.W.Frag) (x : V) (H1 : Hp) (R : It → Hp → Prop) : Prop where
  | mk (a : Addr) (h0_ : x = .ref a) (h1_ : (∃ xs, SqL K H1 a xs)) (h2_ : R (Itl K a) H1) : I_iList K x H1 R
noncomputable def iList (K : PySem.W.Frag) (tl : TE) : TI := fun σ H R => tl σ H fun x H1 => I_iList K x H1 R
theorem pi_list {l : Expr} {tl : TE} (hl : PE X l tl) : PI X tg l (iList X.K tl) := by
  intro pins s σ H R I h
  refine thn (hl pins s σ H _ I h) fun v s1 ⟨x, H1, I1, r1, q1⟩ => ?_
  obtain ⟨a, e, ⟨xs, hq⟩, q⟩ := q1
  subst e
  cases r1
  obtain ⟨its, rv, p, hz⟩ := I1.list hq
  refine wpAny_pyIter_list p.isList ?_
  refine ⟨s1.heap.objs.size, [s1.heap.objs.size], _, _, H1, rfl, I1.kept (t' := s1.toks) fun b o e => Heap.get?_push_of_some _ e, turn_list a _, ⟨_, Heap.get?_push_size _ rfl, rfl, rfl⟩, fun b hb => ?_, q⟩
  have e : b = s1.heap.objs.size := by simpa using hb
  subst e
  exact I1.fpOk (Nat.le_refl _) (I1.hok.fresh (Nat.le_refl _))
/-- a range object just made, walked -/
theorem range_it {pins : List (Addr × Obj)} {σ : St} {H : Hp} {s : Shared} {R : It → Hp → Prop} {E : Value → Shared → Prop} {lo hi : Int} {t u v : Tok} {tk : Nat} (I : Inv X pins σ H s) (h1 : -(2 ^ 62) ≤ lo) (h2 : lo < 2 ^ 62) (h3 : -(2 ^ 62) ≤ hi) (h4 : hi < 2 ^ 62)
    (q : R (Itr lo (hi - lo).toNat) H) : wpAny (model X.prog X.w) X.A (pyIter (.ref s.heap.objs.size)) (PIE X pins σ tg R) E { s with heap := s.heap.push { cls := .type "range", data := .fields #[.int lo t, .int hi u, .int 1 v] }, toks := tk } := by
  refine wpAny_pyIter_range (IsRange.new ..) (small_one h1 h2 h3 h4) ?_
  have I1 : Inv X pins σ H { s with heap := s.heap.push { cls := .type "range", data := .fields #[.int lo t, .int hi u, .int 1 v] }, toks := tk } := I.kept fun b o e => Heap.get?_push_of_some _ e
  refine ⟨(s.heap.push { cls := .type "range", data := .fields #[.int lo t, .int hi u, .int 1 v] }).objs.size, [(s.heap.push { cls := .type "range", data := .fields #[.int lo t, .int hi u, .int 1 v] }).objs.size], _, _, H, rfl,
    I1.kept (t' := tk) fun b o e => Heap.get?_push_of_some _ e, turn_range _ lo (hi - lo).toNat, ?_, fun b hb => ?_, q⟩
  · have e1 : lo + ((0 : Nat) : Int) * 1 = lo := by simp
    have e2 : (((hi - lo).toNat : Nat) : Int) - ((0 : Nat) : Int) = Builtin.Range.rangeSize lo hi 1 := by rw [rangeSize_one]; split <;> (first | lia | omega)
    show IsRangeIter _ _ (lo + ((0 : Nat) : Int) * 1) ((((hi - lo).toNat : Nat) : Int) - ((0 : Nat) : Int)) 1
    rw [e1, e2]
    exact Heap.get?_push_size _ rfl
  · have e : b = (s.heap.push { cls := .type "range", data := .fields #[.int lo t, .int hi u, .int 1 v] }).objs.size := by simpa using hb
    subst e
    exact I1.fpOk (Nat.le_refl _) (I1.hok.fresh (Nat.le_refl _))
inductive I_iRng1 (vs : List V) (H1 : Hp) (R : It → Hp → Prop) : Prop where
  | mk (j : Int) (h0_ : vs = [.int j]) (h1_ : -(2 ^ 62) ≤ j) (h2_ : j < 2 ^ 62) (h3_ : R (Itr 0 j.toNat) H1) : I_iRng1 vs H1 R
noncomputable def iRng1 (ta : TA) : TI := fun σ H R => ta σ H fun vs H1 => I_iRng1 vs H1 R
theorem pi_range1 {a : Expr} {ta : TA} {p pos : Pos} (hg : Gl X "range") (hm : X.mg "range" = none) (ha : PA X [a] ta) (hs : starEach [a] X.env = [(false, eval a X.env)] := by rfl) : PI X tg (.Call (.Name "range" p) [a] [] pos) (iRng1 ta) := by
  intro pins s σ H R I h
  refine Call_ (ld_blt I hg hm boot_range (PyProof.Rows.callWith_type1 (thn (ha pos pins s σ H _ I h) fun us s1 ⟨vs, H1, I1, r1, q1⟩ => ?_) hs rfl))
  obtain ⟨j, e, q1, q2, q⟩ := q1
  subst e
  cases r1 with
  | cons r rr =>
    cases rr
    obtain ⟨t, rfl⟩ := r
    exact call_range_1 (range_it I1 (by (first | lia | omega)) (by (first | lia | omega)) q1 q2 (by simpa using q))
/-! ### for -/
/-- W: the invariant by the turn and a measure; N: what the body is to reach -/
noncomputable def tFor (wi : TI) (g : TG) (tb : TS) : TS := fun D σ H => wi σ H fun J H1 => ∃ W : Nat → Nat → St → Hp → Prop, (∃ m, W 0 m σ H1) ∧ ∀ i m σ H, W i m σ H →
  (J.stop i H ∧ D.nx σ H) ∨ (J.go i H ∧ ∃ N : St → Hp → Prop, (∀ σ' H', N σ' H' → ∃ m', m' < m ∧ W (i + 1) m' σ' H') ∧ ∀ x H', J.yld i H x H' → g x σ H' fun σ2 H2 => tb { D with nx := N, ct := N, bk := D.nx } σ2 H2)
/-- the records at fp as they stand -/
noncomputable def pinsAt (fp : List Addr) (h : Heap) : List (Addr × Obj) := fp.filterMap fun b => (h.get? b).map fun o => (b, o)
theorem mem_pinsAt {fp : List Addr} {h : Heap} {b : Addr} {o : Obj} (hb : b ∈ fp) (e : h.get? b = some o) : (b, o) ∈ pinsAt fp h := List.mem_filterMap.mpr ⟨b, hb, by rw [e]; rfl⟩
theorem of_pinsAt {fp : List Addr} {h : Heap} {p : Addr × Obj} (hp : p ∈ pinsAt fp h) : p.1 ∈ fp ∧ h.get? p.1 = some p.2 := by
  obtain ⟨b, hb, e⟩ := List.mem_filterMap.mp hp
  cases q : h.get? b with
  | none => rw [q] at e; cases e
  | some o =>
    rw [q] at e
    have e' : (b, o) = p := Option.some.inj e
    subst e'
    exact ⟨hb, q⟩
theorem Inv.pinned {pins : List (Addr × Obj)} {σ : St} {H : Hp} {s : Shared} {fp : List Addr} (I : Inv X pins σ H s) (hf : ∀ b ∈ fp, FpOk X pins H b) (ho : ∀ b ∈ fp, ∃ o, s.heap.get? b = some o ∧ ∀ v, o.data ≠ .cell v) : Inv X (pins ++ pinsAt fp s.heap) σ H s :=
  I.pins_of fun p hp => (List.mem_append.mp hp).elim (fun z => I.pin p (List.mem_append_right _ z)) fun z => by
    obtain ⟨hb, e⟩ := of_pinsAt z
    obtain ⟨f0, f1, f2, _⟩ := hf p.1 hb
    obtain ⟨o, e', d⟩ := ho p.1 hb
    rw [e] at e'; cases e'
    exact ⟨e, f0, f1, f2, d⟩
theorem Inv.unpinned {pins pl : List (Addr × Obj)} {σ : St} {H : Hp} {s : Shared} (I : Inv X (pins ++ pl) σ H s) : Inv X pins σ H s := I.pins_of fun p hp => I.pin p (List.mem_append_right _ (List.mem_append_left _ hp))
theorem ps_for {iter : Expr} {body : List Stmt} {wi : TI} {g : TG} {tb : TS} {pos : Pos} (hp : PassesOwn (model X.prog X.w) X.A X.env X.xe) (hc : X.calm = true) (hi : PI X tg iter wi) (hg : PG X tg g) (hb : PSs X body tb)
    (hs : ∀ x, foldedSetIterable iter X.env x = pure x := by intro _; rfl) : PS X (.For tg iter body [] pos) (tFor wi g tb) := by
  intro pins s σ H D I h
  refine wpAny_For (thn (hi pins s σ H _ I h) fun v s1 h1 => thn h1 fun itv s2 h2 => ?_) hs
  obtain ⟨it, fp, tn, J, H2, e, I2, T, st2, f2, W, ⟨m0, w0⟩, turn⟩ := h2
  subst e
  -- what stays true of the iterator's objects through the loop
  have stat : ∀ {H' : Hp}, (∀ b ∈ fp, H' b = none) → ∀ b ∈ fp, FpOk X pins H' b := fun hn b hb => ⟨hn b hb, (f2 b hb).2⟩
  refine codeAny_forLoop_any (fun n s' => ∃ i σ' H', Inv X pins σ' H' s' ∧ tn i s'.heap ∧ (∀ b ∈ fp, H' b = none) ∧ W i n σ' H') ?_ m0 ⟨0, σ, H2, I2, st2, fun b hb => (f2 b hb).1, w0⟩
  rintro n s3 ⟨i, σ3, H3, I3, st3, fr3, w3⟩
  rcases turn i n σ3 H3 w3 with ⟨stop, qn⟩ | ⟨go, N, hN, step⟩
  · refine wpAny_passesOwn hp (thn (T.done X rfl rfl rfl hc i pins s3 σ3 H3 X.xe I3 (stat fr3) st3 stop) fun r s4 ⟨hr, I4⟩ => ?_)
    subst hr
    exact wpAny_execs_nil ⟨σ3, H3, I4, qn⟩
  · refine wpAny_passesOwn hp (thn (T.item X rfl rfl rfl hc i pins s3 σ3 H3 X.xe I3 (stat fr3) st3 go) fun r s4 ⟨u, hr, h4⟩ => ?_)
    subst hr
    refine wpAny_passesOwn hp (thn h4 fun _ s5 ⟨x, H5, I5, r5, y5, st5, fr5⟩ => ?_)
    have I5' := I5.pinned (stat fr5) (T.obj _ _ st5)
    refine wpAny_passesOwn hp (thn (hg _ s5 σ3 H5 x u _ I5' r5 (step x H5 y5)) fun _ s6 ⟨σ6, H6, I6, q6⟩ => ?_)
    refine wpAny_passesOwn hp (thn (hb _ s6 σ6 H6 _ I6 q6) fun f s7 q7 => ?_)
    have again : ∀ {σ7 : St} {H7 : Hp}, Inv X (pins ++ pinsAt fp s5.heap) σ7 H7 s7 → N σ7 H7 → ∃ m, m < n ∧ ∃ i σ' H', Inv X pins σ' H' s7 ∧ tn i s7.heap ∧ (∀ b ∈ fp, H' b = none) ∧ W i m σ' H' := fun {σ7 H7} I7 n7 => by
      obtain ⟨m', hm, w7⟩ := hN σ7 H7 n7
      refine ⟨m', hm, i + 1, σ7, H7, I7.unpinned, T.keep _ _ _ st5 fun b hb o e => (I7.pin (b, o) (List.mem_append_right _ (List.mem_append_right _ (mem_pinsAt hb e)))).1, fun b hb => ?_, w7⟩
      obtain ⟨o, e, d⟩ := T.obj _ _ st5 b hb
      exact (I7.pin (b, o) (List.mem_append_right _ (List.mem_append_right _ (mem_pinsAt hb e)))).2.1
    cases f with
    | next => obtain ⟨σ7, H7, I7, n7⟩ := q7; exact again I7 n7
    | cont => obtain ⟨σ7, H7, I7, n7⟩ := q7; exact again I7 n7
    | brk => obtain ⟨σ7, H7, I7, q7⟩ := q7; exact ⟨σ7, H7, I7.unpinned, q7⟩
    | ret v => obtain ⟨x7, σ7, H7, I7, r7, q7⟩ := q7; exact ⟨x7, σ7, H7, I7.unpinned, r7, q7⟩
end

/-! ### the forms one uses -/
/-- over a list that the body leaves as it is -/
theorem for_list {K : PySem.W.Frag} {a : Addr} {xs : List V} {g : TG} {tb : TS} {D : Ends} {σ : St} {H : Hp} (Pv : Nat → St → Hp → Prop) (h0 : Pv 0 σ H) (hl : ∀ i σ H, i ≤ xs.length → Pv i σ H → SqL K H a xs)
    (hs : ∀ i x σ H, xs[i]? = some x → Pv i σ H → g x σ H fun σ2 H2 => tb { D with nx := Pv (i + 1), ct := Pv (i + 1), bk := D.nx } σ2 H2) (hd : ∀ σ H, Pv xs.length σ H → D.nx σ H) :
    ∃ W : Nat → Nat → St → Hp → Prop, (∃ m, W 0 m σ H) ∧ ∀ i m σ H, W i m σ H →
      ((Itl K a).stop i H ∧ D.nx σ H) ∨ ((Itl K a).go i H ∧ ∃ N : St → Hp → Prop, (∀ σ' H', N σ' H' → ∃ m', m' < m ∧ W (i + 1) m' σ' H') ∧ ∀ x H', (Itl K a).yld i H x H' → g x σ H' fun σ2 H2 => tb { D with nx := N, ct := N, bk := D.nx } σ2 H2) := by
  refine ⟨fun i m σ H => m = xs.length - i ∧ i ≤ xs.length ∧ Pv i σ H, ⟨xs.length, by simp, Nat.zero_le _, h0⟩, ?_⟩
  rintro i m σ H ⟨rfl, hi, p⟩
  have q := hl i σ H hi p
  by_cases hlt : i < xs.length
  · refine .inr ⟨⟨xs, xs[i], q, by simp [hlt]⟩, Pv (i + 1), fun σ' H' p' => ⟨xs.length - (i + 1), by (first | lia | omega), rfl, hlt, p'⟩, fun x H' y => ?_⟩
    obtain ⟨e, y⟩ := y
    subst e
    exact hs i x σ _ (y xs q) p
  · have e : i = xs.length := by (first | lia | omega)
    subst e
    exact .inl ⟨⟨xs, q, Nat.le_refl _⟩, hd σ H p⟩
end L2

namespace L2
open PySem PySem.Spec PyProof.Rows

noncomputable abbrev R2 := V → V → Hp → VK → Prop
/-- a two-place operation on values: f is binaryOp op, inplaceOp op or compareOp op -/
noncomputable def OpR (X : Cx) (f : Value → Value → Sem Value) (r : R2) : Prop :=
  ∀ (pins : List (Addr × Obj)) (s : Shared) (σ : St) (H : Hp) (x y : V) (v u : Value) (Q : VK), Inv X pins σ H s → RelV x v → RelV y u → r x y H Q →
    wpAny (model X.prog X.w) X.A (f v u) (EP X pins σ Q) X.xe s
/-- a one-place operation -/
noncomputable def UnR (X : Cx) (f : Value → Sem Value) (r : V → Hp → VK → Prop) : Prop :=
  ∀ (pins : List (Addr × Obj)) (s : Shared) (σ : St) (H : Hp) (x : V) (v : Value) (Q : VK), Inv X pins σ H s → RelV x v → r x H Q →
    wpAny (model X.prog X.w) X.A (f v) (EP X pins σ Q) X.xe s
/-- a call of a value that is known (a builtin, a type) with values -/
noncomputable def CallR (X : Cx) (f : Value) (r : List V → Hp → VK → Prop) : Prop :=
  ∀ (pins : List (Addr × Obj)) (s : Shared) (σ : St) (H : Hp) (xs : List V) (us : List Value) (Q : VK), Inv X pins σ H s → Vals xs us → r xs H Q →
    wpAny (model X.prog X.w) X.A (call f us) (EP X pins σ Q) X.xe s
noncomputable def tOp (r : R2) (ta tb : TE) : TE := fun σ H Q => ta σ H fun x H1 => tb σ H1 fun y H2 => r x y H2 Q
noncomputable def tUn (r : V → Hp → VK → Prop) (ta : TE) : TE := fun σ H Q => ta σ H fun x H1 => r x H1 Q
/-- ints in, under C, and a value out -/
inductive I_rI (C : Int → Int → Prop) (g : Int → Int → V) (x y : V) (H : Hp) (Q : VK) : Prop where
  | mk (i j : Int) (h0_ : x = .int i) (h1_ : y = .int j) (h2_ : C i j) (h3_ : Q (g i j) H) : I_rI C g x y H Q
noncomputable def rI (C : Int → Int → Prop) (g : Int → Int → V) : R2 := fun x y H Q => I_rI C g x y H Q
inductive I_rI0 (g : Int → Int → V) (x y : V) (H : Hp) (Q : VK) : Prop where
  | mk (i j : Int) (h0_ : x = .int i) (h1_ : y = .int j) (h2_ : Q (g i j) H) : I_rI0 g x y H Q
noncomputable def rI0 (g : Int → Int → V) : R2 := fun x y H Q => I_rI0 g x y H Q
inductive I_rU (g : Int → V) (x : V) (H : Hp) (Q : VK) : Prop where
  | mk (i : Int) (h0_ : x = .int i) (h1_ : Q (g i) H) : I_rU g x H Q
noncomputable def rU (g : Int → V) : V → Hp → VK → Prop := fun x H Q => I_rU g x H Q

section
variable {X : Cx} {a b c : Expr} {ta tb tc : TE} {pos : Pos}

theorem binT (ha : PE X a ta) (hb : PE X b tb) {pins : List (Addr × Obj)} {s : Shared} {σ : St} {H : Hp} {R : V → V → Hp → Prop} (I : Inv X pins σ H s)
    (h : ta σ H fun x H1 => tb σ H1 fun y H2 => R x y H2) {Q : Value → Shared → Prop} {f : Value → Value → Sem Value}
    (hf : ∀ v u s2 x y H2, Inv X pins σ H2 s2 → RelV x v → RelV y u → R x y H2 → wpAny (model X.prog X.w) X.A (f v u) Q X.xe s2) :
    wpAny (model X.prog X.w) X.A (eval a X.env) (fun v s₁ => wpAny (model X.prog X.w) X.A (eval b X.env) (fun u s₂ => wpAny (model X.prog X.w) X.A (f v u) Q X.xe s₂) X.xe s₁) X.xe s := by
  refine thn (ha pins s σ H _ I h) fun v s1 ⟨x, H1, I1, r1, q1⟩ => ?_
  refine thn (hb pins s1 σ H1 _ I1 q1) fun u s2 ⟨y, H2, I2, r2, q2⟩ => ?_
  exact hf v u s2 x y H2 I2 r1 r2 q2

theorem pe_op {op : Operator} {r : R2} (ho : OpR X (binaryOp op) r) (ha : PE X a ta) (hb : PE X b tb) : PE X (.BinOp a op b pos) (tOp r ta tb) := by
  intro pins s σ H Q I h
  exact wpAny_BinOp (binT ha hb I h fun v u s2 x y H2 I2 rx ry q => ho pins s2 σ H2 x y v u Q I2 rx ry q)
theorem pe_un {op : UnaryOp} {r : V → Hp → VK → Prop} (ho : UnR X (unaryOp op) r) (ha : PE X a ta) : PE X (.UnaryOp op a pos) (tUn r ta) := by
  intro pins s σ H Q I h
  exact UnaryOp_ (thn (ha pins s σ H _ I h) fun v s1 ⟨x, H1, I1, r1, q1⟩ => ho pins s1 σ H1 x v Q I1 r1 q1)
/-! ### ints -/
theorem opI {f : Value → Value → Sem Value} {C : Int → Int → Prop} {g : Int → Int → Int}
    (rule : ∀ (i j : Int) (t u : Tok) (s : Shared) (Q : Value → Shared → Prop) (E : Value → Shared → Prop), C i j → Q (.int (g i j) s.toks) { s with toks := s.toks + 1 } → wpAny (model X.prog X.w) X.A (f (.int i t) (.int j u)) Q E s) :
    OpR X f (rI C fun i j => .int (g i j)) := by
  intro pins s σ H x y v u Q I rx ry h
  obtain ⟨i, j, rfl, rfl, hc, q⟩ := h
  obtain ⟨t, rfl⟩ := rx
  obtain ⟨t', rfl⟩ := ry
  exact rule i j t t' s _ _ hc ⟨.int (g i j), H, I.tok _, ⟨_, rfl⟩, q⟩
theorem opI0 {f : Value → Value → Sem Value} {g : Int → Int → Int}
    (rule : ∀ (i j : Int) (t u : Tok) (s : Shared) (Q : Value → Shared → Prop) (E : Value → Shared → Prop), Q (.int (g i j) s.toks) { s with toks := s.toks + 1 } → wpAny (model X.prog X.w) X.A (f (.int i t) (.int j u)) Q E s) :
    OpR X f (rI0 fun i j => .int (g i j)) := by
  intro pins s σ H x y v u Q I rx ry h
  obtain ⟨i, j, rfl, rfl, q⟩ := h
  obtain ⟨t, rfl⟩ := rx
  obtain ⟨t', rfl⟩ := ry
  exact rule i j t t' s _ _ ⟨.int (g i j), H, I.tok _, ⟨_, rfl⟩, q⟩
theorem opB0 {f : Value → Value → Sem Value} {g : Int → Int → Bool}
    (rule : ∀ (i j : Int) (t u : Tok) (s : Shared) (Q : Value → Shared → Prop) (E : Value → Shared → Prop), Q (.bool (g i j)) s → wpAny (model X.prog X.w) X.A (f (.int i t) (.int j u)) Q E s) :
    OpR X f (rI0 fun i j => .bl (g i j)) := by
  intro pins s σ H x y v u Q I rx ry h
  obtain ⟨i, j, rfl, rfl, q⟩ := h
  obtain ⟨t, rfl⟩ := rx
  obtain ⟨t', rfl⟩ := ry
  exact rule i j t t' s _ _ ⟨.bl (g i j), H, I, rfl, q⟩

noncomputable def CPow (i j : Int) : Prop := 0 ≤ j ∧ j ≤ 1000000 ∧ i.natAbs < 2 ^ 64
theorem two_pow_nn (k : Nat) : (0 : Int) ≤ 2 ^ k := by
  rw [two_pow_cast]
  exact Int.natCast_nonneg _

theorem op_add : OpR X (binaryOp .Add) (rI0 fun i j => .int (i + j)) := opI0 fun _ _ _ _ _ _ _ q => add_int q
theorem op_sub : OpR X (binaryOp .Sub) (rI0 fun i j => .int (i - j)) := opI0 fun _ _ _ _ _ _ _ q => sub_int q
theorem op_modN : OpR X (binaryOp .Mod) (rI (fun _ j => j ≠ 0) fun i j => .int (i.fmod j)) := opI fun _ _ _ _ _ _ _ hc q => mod_int' hc q
theorem op_pow : OpR X (binaryOp .Pow) (rI CPow fun i j => .int (i ^ j.toNat)) := opI fun _ _ _ _ _ _ _ hc q => pow_int_small hc.1 hc.2.1 hc.2.2 q
theorem op_shr : OpR X (binaryOp .RShift) (rI (fun _ j => 0 ≤ j) fun i j => .int (i / 2 ^ j.toNat)) := opI fun i j _ _ _ _ _ hc q =>
  rshift_int hc (by rw [Int.fdiv_eq_ediv_of_nonneg i (two_pow_nn _)]; exact q)
theorem unI {f : Value → Sem Value} {g : Int → Int}
    (rule : ∀ (i : Int) (t : Tok) (s : Shared) (Q : Value → Shared → Prop) (E : Value → Shared → Prop), Q (.int (g i) s.toks) { s with toks := s.toks + 1 } → wpAny (model X.prog X.w) X.A (f (.int i t)) Q E s) :
    UnR X f (rU fun i => .int (g i)) := by
  intro pins s σ H x v Q I rx h
  obtain ⟨i, rfl, q⟩ := h
  obtain ⟨t, rfl⟩ := rx
  exact rule i t s _ _ ⟨.int (g i), H, I.tok _, ⟨_, rfl⟩, q⟩
theorem un_neg : UnR X (unaryOp .USub) (rU fun i => .int (-i)) := unI fun _ _ _ _ _ q => neg_int q
/-! ### bools among ints: n += (a < b) -/
end

/-! ### comparisons -/
/-- the scalars that == tells apart as data does -/
noncomputable def scal : V → V → Bool
  | .non, .non => true | .non, .int _ => true | .int _, .non => true | .non, .bl _ => true | .bl _, .non => true | .non, .str _ => true | .str _, .non => true
  | .int _, .int _ => true | .bl _, .bl _ => true | .str _, .str _ => true | .byt _, .byt _ => true
  | .int _, .str _ => true | .str _, .int _ => true | .bl _, .str _ => true | .str _, .bl _ => true
  | _, _ => false
noncomputable def rEq : R2 := fun x y H Q => scal x y = true ∧ Q (.bl (decide (x = y))) H
noncomputable def rNe : R2 := fun x y H Q => scal x y = true ∧ Q (.bl (!decide (x = y))) H

theorem dec_int {i j : Int} : decide (V.int i = V.int j) = (i == j) := by
  rw [Bool.eq_iff_iff]
  simp
theorem dec_bl {i j : Bool} : decide (V.bl i = V.bl j) = (i == j) := by
  rw [Bool.eq_iff_iff]
  simp
theorem dec_str {i j : Str} : decide (V.str i = V.str j) = (i == j) := by
  rw [Bool.eq_iff_iff]
  simp
theorem dec_byt {i j : Array UInt8} : decide (V.byt i = V.byt j) = (i.toList == j.toList) := by
  rw [Bool.eq_iff_iff]
  cases i
  cases j
  simp

section
variable {X : Cx} {a b c : Expr} {ta tb tc : TE} {pos : Pos}
theorem fin_bl {pins : List (Addr × Obj)} {σ : St} {H : Hp} {s : Shared} {Q : VK} {k k' : Bool} (I : Inv X pins σ H s) (q : Q (.bl k) H) (e : k = k') : EP X pins σ Q (.bool k') s := by
  subst e
  exact ⟨.bl k, H, I, rfl, q⟩
theorem op_eq : OpR X (compareOp .Eq) rEq := by
  intro pins s σ H x y v u Q I rx ry h
  obtain ⟨hs, q⟩ := h
  cases x with
  | non =>
    cases rx
    cases y with
    | non => cases ry; exact PySem.EqNone.eq_none_none (fin_bl I q (by simp))
    | bl j => cases ry; exact PySem.EqNone.eq_none_bool (fin_bl I q (by simp))
    | int j => obtain ⟨t', rfl⟩ := ry; exact PySem.EqNone.eq_none_int (fin_bl I q (by simp))
    | str j => obtain ⟨t', rfl⟩ := ry; exact PySem.EqNone.eq_none_str (fin_bl I q (by simp))
    | _ => exact absurd (show false = true from hs) Bool.false_ne_true
  | bl i =>
    cases rx
    cases y with
    | non => cases ry; exact PySem.EqNone.eq_bool_none (fin_bl I q (by simp))
    | bl j => cases ry; exact eq_bool (fin_bl I q dec_bl)
    | str j => obtain ⟨t', rfl⟩ := ry; exact PySem.EqMixed.eq_bool_str (fin_bl I q (by simp))
    | _ => exact absurd (show false = true from hs) Bool.false_ne_true
  | int i =>
    obtain ⟨t, rfl⟩ := rx
    cases y with
    | non => cases ry; exact PySem.EqNone.eq_int_none (fin_bl I q (by simp))
    | int j => obtain ⟨t', rfl⟩ := ry; exact eq_int (fin_bl I q dec_int)
    | str j => obtain ⟨t', rfl⟩ := ry; exact PySem.EqMixed.eq_int_str (fin_bl I q (by simp))
    | _ => exact absurd (show false = true from hs) Bool.false_ne_true
  | str i =>
    obtain ⟨t, rfl⟩ := rx
    cases y with
    | non => cases ry; exact PySem.EqNone.eq_str_none (fin_bl I q (by simp))
    | bl j => cases ry; exact PySem.EqMixed.eq_str_bool (fin_bl I q (by simp))
    | int j => obtain ⟨t', rfl⟩ := ry; exact PySem.EqMixed.eq_str_int (fin_bl I q (by simp))
    | str j => obtain ⟨t', rfl⟩ := ry; exact eq_str (fin_bl I q dec_str)
    | _ => exact absurd (show false = true from hs) Bool.false_ne_true
  | byt i =>
    obtain ⟨t, rfl⟩ := rx
    cases y with
    | byt j => obtain ⟨t', rfl⟩ := ry; exact PySem.W.eq_bytes (fin_bl I q dec_byt)
    | _ => exact absurd (show false = true from hs) Bool.false_ne_true
  | _ => cases y <;> exact absurd (show false = true from hs) Bool.false_ne_true
theorem op_ne : OpR X (compareOp .NotEq) rNe := by
  intro pins s σ H x y v u Q I rx ry h
  obtain ⟨hs, q⟩ := h
  cases x with
  | non =>
    cases rx
    cases y with
    | non => cases ry; exact PySem.EqNone.ne_none_none (fin_bl I q (by simp))
    | bl j => cases ry; exact PySem.EqNone.ne_none_bool (fin_bl I q (by simp))
    | int j => obtain ⟨t', rfl⟩ := ry; exact PySem.EqNone.ne_none_int (fin_bl I q (by simp))
    | str j => obtain ⟨t', rfl⟩ := ry; exact PySem.EqNone.ne_none_str (fin_bl I q (by simp))
    | _ => exact absurd (show false = true from hs) Bool.false_ne_true
  | bl i =>
    cases rx
    cases y with
    | non => cases ry; exact PySem.EqNone.ne_bool_none (fin_bl I q (by simp))
    | bl j => cases ry; exact ne_bool (fin_bl I q (congrArg not dec_bl))
    | str j => obtain ⟨t', rfl⟩ := ry; exact PySem.EqMixed.ne_bool_str (fin_bl I q (by simp))
    | _ => exact absurd (show false = true from hs) Bool.false_ne_true
  | int i =>
    obtain ⟨t, rfl⟩ := rx
    cases y with
    | non => cases ry; exact PySem.EqNone.ne_int_none (fin_bl I q (by simp))
    | int j => obtain ⟨t', rfl⟩ := ry; exact ne_int (fin_bl I q (congrArg not dec_int))
    | str j => obtain ⟨t', rfl⟩ := ry; exact PySem.EqMixed.ne_int_str (fin_bl I q (by simp))
    | _ => exact absurd (show false = true from hs) Bool.false_ne_true
  | str i =>
    obtain ⟨t, rfl⟩ := rx
    cases y with
    | non => cases ry; exact PySem.EqNone.ne_str_none (fin_bl I q (by simp))
    | bl j => cases ry; exact PySem.EqMixed.ne_str_bool (fin_bl I q (by simp))
    | int j => obtain ⟨t', rfl⟩ := ry; exact PySem.EqMixed.ne_str_int (fin_bl I q (by simp))
    | str j => obtain ⟨t', rfl⟩ := ry; exact ne_str (fin_bl I q (congrArg not dec_str))
    | _ => exact absurd (show false = true from hs) Bool.false_ne_true
  | byt i =>
    obtain ⟨t, rfl⟩ := rx
    cases y with
    | byt j => obtain ⟨t', rfl⟩ := ry; exact PySem.W.ne_bytes (fin_bl I q (congrArg not dec_byt))
    | _ => exact absurd (show false = true from hs) Bool.false_ne_true
  | _ => cases y <;> exact absurd (show false = true from hs) Bool.false_ne_true

theorem op_lt : OpR X (compareOp .Lt) (rI0 fun i j => .bl (decide (i < j))) := opB0 fun _ _ _ _ _ _ _ q => lt_int q
theorem op_le : OpR X (compareOp .LtE) (rI0 fun i j => .bl (decide (i ≤ j))) := opB0 fun _ _ _ _ _ _ _ q => le_int q
theorem op_gt : OpR X (compareOp .Gt) (rI0 fun i j => .bl (decide (j < i))) := opB0 fun _ _ _ _ _ _ _ q => gt_int q
theorem op_ge : OpR X (compareOp .GtE) (rI0 fun i j => .bl (decide (j ≤ i))) := opB0 fun _ _ _ _ _ _ _ q => ge_int q
/-- is None, is not None: the right side a value none -/
theorem op_isN : OpR X (compareOp .Is) (fun x y H Q => y = .non ∧ Q (.bl (decide (x = .non))) H) := by
  intro pins s σ H x y v u Q I rx ry h
  obtain ⟨rfl, q⟩ := h
  cases ry
  refine is_none_gen (fin_bl I q ?_)
  cases x <;> first
    | (cases rx; rfl)
    | (obtain ⟨t, rfl⟩ := rx; rfl)
theorem op_notN : OpR X (compareOp .IsNot) (fun x y H Q => y = .non ∧ Q (.bl (!decide (x = .non))) H) := by
  intro pins s σ H x y v u Q I rx ry h
  obtain ⟨rfl, q⟩ := h
  cases ry
  refine isnot_none_gen (fin_bl I q ?_)
  cases x <;> first
    | (cases rx; rfl)
    | (obtain ⟨t, rfl⟩ := rx; rfl)

theorem nomark (b : Expr) {op : CmpOp} (h : op ≠ .In := by decide) (h2 : op ≠ .NotIn := by decide) : behindInMarks op b = false := by
  have e1 : (op == CmpOp.In) = false := by cases op <;> first | rfl | exact absurd rfl h
  have e2 : (op == CmpOp.NotIn) = false := by cases op <;> first | rfl | exact absurd rfl h2
  cases b <;> simp [behindInMarks, e1, e2]
/-- a comparison as a value; hm: nomark b, or (for in, not in) by with_unfolding_all rfl -/
theorem pe_cmpR {op : CmpOp} {r : R2} (ho : OpR X (compareOp op) r) (ha : PE X a ta) (hb : PE X b tb) (hm : behindInMarks op b = false) : PE X (.Compare a [op] [b] pos) (tOp r ta tb) := by
  intro pins s σ H Q I h
  exact wpAny_Compare1 (binT ha hb I h fun v u s2 x y H2 I2 rx ry q => ho pins s2 σ H2 x y v u Q I2 rx ry q) hm
/-- a reading of a value as a test -/
inductive I_tTest (x : V) (H' : Hp) (Q : Bool → Hp → Prop) : Prop where
  | mk (k : Bool) (h0_ : x = .bl k) (h1_ : Q k H') : I_tTest x H' Q
noncomputable def tTest (t : TE) : TT := fun σ H Q => t σ H fun x H' => I_tTest x H' Q
theorem pt_cmpR {op : CmpOp} {r : R2} (ho : OpR X (compareOp op) r) (ha : PE X a ta) (hb : PE X b tb) (hm : behindInMarks op b = false) : PT X (.Compare a [op] [b] pos) (tTest (tOp r ta tb)) := by
  intro pins s σ H Q I h
  refine wpAny_isTrue_Compare1 (thn (ha pins s σ H _ I h) fun v s1 ⟨x, H1, I1, r1, q1⟩ => thn (hb pins s1 σ H1 _ I1 q1) fun u s2 ⟨y, H2, I2, r2, q2⟩ =>
    thn (ho pins s2 σ H2 x y v u _ I2 r1 r2 q2) fun c s3 ⟨z, H3, I3, r3, k, e, q3⟩ => ?_) hm
  subst e
  cases r3
  exact wpAny_truthy_bool ⟨H3, I3, q3⟩
/-- a op1 b op2 c -/
noncomputable def tChain (r r' : R2) (ta tb tc : TE) : TE := fun σ H Q => ta σ H fun x H1 => tb σ H1 fun y H2 => r x y H2 fun z H3 => ∃ k, z = .bl k ∧
  (if k = true then tc σ H3 fun w' H4 => r' y w' H4 Q else Q (.bl false) H3)
theorem pt_chain {op op' : CmpOp} {r r' : R2} (ho : OpR X (compareOp op) r) (ho' : OpR X (compareOp op') r') (ha : PE X a ta) (hb : PE X b tb) (hc : PE X c tc)
    (hm : lastMarks [op, op'] [b, c] = false := by with_unfolding_all rfl) : PT X (.Compare a [op, op'] [b, c] pos) (tTest (tChain r r' ta tb tc)) := by
  intro pins s σ H Q I h
  refine isTrue_chain (thn (ha pins s σ H _ I h) fun v s1 ⟨x, H1, I1, r1, q1⟩ => test_link (thn (hb pins s1 σ H1 _ I1 q1) fun u s2 ⟨y, H2, I2, r2, q2⟩ =>
    thn (ho pins s2 σ H2 x y v u _ I2 r1 r2 q2) fun d s3 ⟨z, H3, I3, r3, k, e, q3⟩ => ?_)) hm
  subst e
  cases r3
  refine wpAny_truthy_bool ?_
  cases k with
  | false =>
    obtain ⟨k', e', q'⟩ := q3
    cases e'
    exact ite_ff ⟨H3, I3, q'⟩
  | true =>
    refine ite_tt (test_last (thn (hc pins s3 σ H3 _ I3 q3) fun w' s4 ⟨z', H4, I4, r4, q4⟩ => thn (ho' pins s4 σ H4 y z' u w' _ I4 r2 r4 q4) fun d' s5 ⟨z2, H5, I5, r5, k2, e2, q5⟩ => ?_))
    subst e2
    cases r5
    exact wpAny_truthy_bool ⟨H5, I5, q5⟩

/-! ### truth -/
theorem line63 : (sizeLine : Nat) < 2 ^ 63 := by rw [sizeLine_eq]; decide
/-! ### strs and bytes -/
theorem op_add_str : OpR X (binaryOp .Add) (fun x y H Q => ∃ i j, x = .str i ∧ y = .str j ∧ i.length + j.length ≤ sizeLine ∧ Q (.str (i ++ j)) H) := by
  intro pins s σ H x y v u Q I rx ry h
  obtain ⟨i, j, rfl, rfl, hz, q⟩ := h
  obtain ⟨t, rfl⟩ := rx
  obtain ⟨t', rfl⟩ := ry
  exact add_str (fun t' tk => ⟨.str (i ++ j), H, I.tok _, ⟨_, rfl⟩, q⟩) hz
/-! ### scalar builtins, by CallR -/
theorem vals1 {x : V} {us : List Value} (r : Vals [x] us) : ∃ u, us = [u] ∧ RelV x u := by
  cases r with
  | cons r1 r2 => cases r2; exact ⟨_, rfl, r1⟩
theorem call_abs : CallR X (.builtin "abs") (fun xs H Q => ∃ i, xs = [.int i] ∧ Q (.int (if i < 0 then -i else i)) H) := by
  intro pins s σ H xs us Q I r h
  obtain ⟨i, rfl, q⟩ := h
  obtain ⟨u, rfl, t, rfl⟩ := vals1 r
  exact call_abs_int fun u tk => ⟨.int (if i < 0 then -i else i), H, I.tok _, ⟨_, rfl⟩, q⟩
theorem call_int1 : CallR X (.type "int") (fun xs H Q => (∃ i, xs = [.int i] ∧ Q (.int i) H) ∨ ∃ k, xs = [.bl k] ∧ Q (.int (if k then 1 else 0)) H) := by
  intro pins s σ H xs us Q I r h
  rcases h with ⟨i, rfl, q⟩ | ⟨k, rfl, q⟩
  · obtain ⟨u, rfl, t, rfl⟩ := vals1 r
    exact call_int_int ⟨.int i, H, I, ⟨_, rfl⟩, q⟩
  · obtain ⟨u, rfl, r1⟩ := vals1 r
    cases r1
    exact call_int_bool ⟨.int (if k then 1 else 0), H, I.tok _, ⟨_, rfl⟩, q⟩
theorem call_str_int : CallR X (.type "str") (fun xs H Q => ∃ i, xs = [.int i] ∧ i.natAbs.log2 < 1920 ∧ Q (.str (toString i)) H) := by
  intro pins s σ H xs us Q I r h
  obtain ⟨i, rfl, hz, q⟩ := h
  obtain ⟨u, rfl, t, rfl⟩ := vals1 r
  exact PySem.P.str_of_int hz ⟨.str _, H, I.tok _, ⟨_, rfl⟩, q⟩
end
end L2

namespace L2
open PySem PySem.Spec PyProof.Rows

/-! ### an instance, its attributes a map -/
structure ObjM (h : Heap) (x dx C : Addr) (mA : Str → Option Value) : Prop where
  obj : h.get? x = some (PySem.W.instObj C dx)
  ns : h.Ns1 dx mA
  ne : dx ≠ x

theorem lookIn_ns {h : Heap} {dx : Addr} {mA : Str → Option Value} (n : h.Ns1 dx mA) : ∃ od, h.get? dx = some od ∧ ∀ name, PySem.W.lookIn name od = some (mA name) := by
  obtain ⟨o, es, ep, ho, hd, hk, _, hm⟩ := n
  refine ⟨o, ho, fun name => ?_⟩
  have e := hm name
  unfold nsFind findBy at e
  rw [← Array.find?_toList] at e
  unfold PySem.W.lookIn
  rw [hd]
  dsimp only
  split
  · rename_i y q
    rw [q] at e
    exact congrArg some e
  · rename_i q
    rw [q] at e
    have a : es.toList.any (·.refKey) = false := by
      rw [List.any_eq_false]
      intro y hy
      obtain ⟨z, t, hkey⟩ := hk y (Array.mem_toList_iff.mp hy)
      simp [DictEntry.refKey, hkey]
    have a' : ¬ es.toList.any (·.refKey) = true := by rw [a]; exact Bool.false_ne_true
    rw [if_neg a']
    exact congrArg some e

theorem ObjM.look {h : Heap} {x dx C : Addr} {mA : Str → Option Value} (I : ObjM h x dx C mA) : ∃ od, PySem.W.InstAt h x (PySem.W.instObj C dx) C (some od) ∧ ∀ name, PySem.W.lookIn name od = some (mA name) :=
  let ⟨od, ho, hl⟩ := lookIn_ns I.ns
  ⟨od, ⟨I.obj, rfl, rfl, ho⟩, hl⟩


/-! ### the attributes as a list of pairs -/
section
variable {P : Program} {w : World} {H H' : Hp} {h h' : Heap} {a C dx : Addr} {fs fs' : List (Str × V)}
theorem ins_get (hok : HOk P w H h) (e : H a = some (.ins C dx fs)) : ∃ mA, ObjM h a dx C mA ∧ (∀ f, RelO (fs.lookup f) (mA f)) ∧ PySem.Within mA (fs.map (·.1)) ∧ fs.length ≤ 1000 ∧ H dx = some (.own a) := by
  obtain ⟨d, z, ne, ob, mA, n, r, q⟩ := (show ObjOk P w H h a (.ins C dx fs) from hok a _ e)
  exact ⟨mA, ⟨ob, n, ne⟩, r, q, z, d⟩
end

/-! ### what of the text a class must have -/
structure Cls (K : PySem.W.Frag) (C : Addr) : Prop where
  pg : PySem.W.plainGet K C Str.empty = true
  hd : PySem.W.hasDictIn K C = true
  po : PySem.W.plainOver K C = true
  sa : PySem.W.findIn K (.ref C) "__setattr__" = some (some (.builtin "object.__setattr__"))
theorem Cls.get {K : PySem.W.Frag} {C : Addr} (c : Cls K C) (f : Str) : PySem.W.plainGet K C f = true := c.pg

/-! ### readings and rules -/

/-! ### isinstance -/
section
variable {X : Cx} {pins : List (Addr × Obj)} {σ : St} {H : Hp} {s : Shared} {A : Around} {E : Value → Shared → Prop} {Q : Value → Shared → Prop} {c : Value} {b : Bool}
/-- the type of a value, as the fragment's deciders take it; for an instance its class -/
inductive TyOf (K : PySem.W.Frag) (H : Hp) : V → Value → Prop where
  | non : TyOf K H .non (.type "NoneType")
  | bl (x : Bool) : TyOf K H (.bl x) (.type "bool")
  | int (i : Int) : TyOf K H (.int i) (.type "int")
  | str (x : Str) : TyOf K H (.str x) (.type "str")
  | flt (x : UInt64) : TyOf K H (.flt x) (.type "float")
  | lst {a : Addr} {xs : List V} (e : H a = some (.lst xs)) : TyOf K H (.ref a) (.type "list")
  | frz {a : Addr} {o : Obj} {xs : List V} (e : H a = some (.frz o (.lst xs))) : TyOf K H (.ref a) (.type "list")
  | tup {a : Addr} {xs : List V} (e : H a = some (.tup xs)) : TyOf K H (.ref a) (.type "tuple")
  | dK {a : Addr} {kvs : List (Key × V)} (e : H a = some (.dK kvs)) : TyOf K H (.ref a) (.type "dict")
  | dT {a : Addr} {kvs : List (List Key × V)} (e : H a = some (.dT kvs)) : TyOf K H (.ref a) (.type "dict")
  | ins {a C dx : Addr} {fs : List (Str × V)} (e : H a = some (.ins C dx fs)) (cl : Cls K C) (ha : PySem.W.findIn K (.ref C) "__class__" = some (some (.builtin "object.__class__")))
      (hn : PySem.W.specialIn K (.builtin "object.__class__") "__get__" = some (some (.builtin "getset_descriptor.__get__"))) (htk : PySem.W.takesIn K (.builtin "object.__class__") = some true)
      (hm : PySem.W.mroIn K C (.type "object") = some true) : TyOf K H (.ref a) (.ref C)
/-- isinstance(x, c) for one class c, a built-in or an own one: kitOne's answer -/
theorem isinst_ok {x : V} {u t : Value} (I : Inv X pins σ H s) (rx : RelV x u) (ty : TyOf X.K H x t) (e : PySem.W.kitOne X.K t c = some b) (h : ∀ tk, Q (.bool b) { s with toks := tk }) :
    wpAny (model X.prog X.w) A (call (.builtin "isinstance") [u, c]) Q E s := by
  cases ty with
  | non => cases (show u = Value.none from rx); exact PySem.W.kia_one PySem.W.kitx_none I.kIn True.intro e (fun z => nomatch z) h
  | bl y => cases (show u = Value.bool y from rx); exact PySem.W.kia_one PySem.W.kitx_bool I.kIn True.intro e (fun z => nomatch z) h
  | int i => obtain ⟨t, q⟩ := (show ∃ t, u = Value.int i t from rx); cases q; exact PySem.W.kia_one PySem.W.kitx_int I.kIn True.intro e (fun z => nomatch z) h
  | str y => obtain ⟨t, q⟩ := (show ∃ t, u = Value.str y t from rx); cases q; exact PySem.W.kia_one PySem.W.kitx_str I.kIn True.intro e (fun z => nomatch z) h
  | flt y => obtain ⟨t, q⟩ := (show ∃ t, u = Value.float y t from rx); cases q; exact PySem.W.kia_one PySem.W.kitx_float I.kIn True.intro e (fun z => nomatch z) h
  | @lst a xs ea =>
    cases (show u = Value.ref a from rx)
    obtain ⟨_, _, n, _, h1⟩ := (show ObjOk X.prog X.w H s.heap a (.lst xs) from I.hok a _ ea)
    exact PySem.W.kia_one PySem.W.kitx_list I.kIn ⟨_, h1, rfl⟩ e (fun z => nomatch z) h
  | @frz a ob xs ea =>
    cases (show u = Value.ref a from rx)
    obtain ⟨_, _, _, n, _, h1⟩ := (show ObjOk X.prog X.w H s.heap a (.frz ob (.lst xs)) from I.hok a _ ea)
    exact PySem.W.kia_one PySem.W.kitx_list I.kIn ⟨_, h1, rfl⟩ e (fun z => nomatch z) h
  | @tup a xs ea =>
    cases (show u = Value.ref a from rx)
    obtain ⟨_, _, _, p⟩ := (show ObjOk X.prog X.w H s.heap a (.tup xs) from I.hok a _ ea)
    obtain ⟨o, h1, h2, _⟩ := p
    exact PySem.W.kia_one PySem.W.kitx_tuple I.kIn ⟨o, h1, h2⟩ e (fun z => nomatch z) h
  | @dK a kvs ea =>
    cases (show u = Value.ref a from rx)
    obtain ⟨_, _, vs, _, p⟩ := (show ObjOk X.prog X.w H s.heap a (.dK kvs) from I.hok a _ ea)
    obtain ⟨o, es, ep, h1, h2, _⟩ := p
    exact PySem.W.kia_one PySem.W.kitx_dict I.kIn ⟨o, h1, h2.1⟩ e (fun z => nomatch z) h
  | @dT a kvs ea =>
    cases (show u = Value.ref a from rx)
    obtain ⟨_, _, xs, _, o, es, ep, h1, h2, _⟩ := (show ObjOk X.prog X.w H s.heap a (.dT kvs) from I.hok a _ ea)
    exact PySem.W.kia_one PySem.W.kitx_dict I.kIn ⟨o, h1, h2.1⟩ e (fun z => nomatch z) h
  | @ins a C dx fs ea cl ha hn htk hm =>
    cases (show u = Value.ref a from rx)
    obtain ⟨mA, O, _⟩ := ins_get I.hok ea
    obtain ⟨od, J, _⟩ := O.look
    exact PySem.W.kia_one (PySem.W.kitx_own (cl.get _) cl.hd ha hn htk hm) I.kIn J e (fun z => nomatch z) h
end
end L2

namespace L2
open PySem PySem.Spec PyProof.Rows

/-! ### room -/
structure Room (k : Nat) (A : Around) : Prop where
  hd : A.handled = none
  dp : A.depth + 3 * k + 5 < recursionLimit
  un : A.units + 16 * k + 200 < cLine
  gd : A.guards = some []
theorem Room.mono {j k : Nat} {A : Around} (r : Room k A) (h : j ≤ k) : Room j A := ⟨r.hd, by have := r.dp; (first | lia | omega), by have := r.un; (first | lia | omega), r.gd⟩
theorem Room.deeper {k : Nat} {A : Around} (r : Room (k + 1) A) (env : Env) : Room k (A.deeper env) :=
  ⟨r.hd, by have := r.dp; show A.depth + 1 + 3 * k + 5 < _; (first | lia | omega), by have := r.un; show A.units + 3 + 16 * k + 200 < _; (first | lia | omega), r.gd⟩
theorem Room.depth {k : Nat} {A : Around} (r : Room k A) : A.depth < recursionLimit := by have := r.dp; (first | lia | omega)
theorem Room.units {k : Nat} {A : Around} (r : Room k A) : A.units + 64 < cLine := by have := r.un; (first | lia | omega)
/-! ### argument lists and displays -/
noncomputable def tNil : TA := fun _ H Q => Q [] H
noncomputable def tCons (ta : TE) (tr : TA) : TA := fun σ H Q => ta σ H fun x H1 => tr σ H1 fun xs H2 => Q (x :: xs) H2
section
variable {X : Cx} {e : Expr} {es : List Expr} {te : TE} {t : TA} {pos : Pos}
theorem pa_nil : PA X [] tNil := fun _ _ _ _ H Q I h => Calls.spliced_nil ⟨[], H, I, .nil, h⟩
theorem pa_cons (ha : PE X e te) (hr : PA X es t) (hs : starEach (e :: es) X.env = (false, eval e X.env) :: starEach es X.env := by rfl) : PA X (e :: es) (tCons te t) := by
  intro pos pins s σ H Q I h
  rw [hs]
  show wpAny _ _ (spliced ((false, eval e X.env) :: backTo pos (starEach es X.env))) _ _ s
  refine Calls.spliced_cons (thn (ha pins s σ H _ I h) fun u s1 ⟨x, H1, I1, r1, q1⟩ => ?_)
  exact thn (hr pos pins s1 σ H1 _ I1 q1) fun us s2 ⟨xs, H2, I2, r2, q2⟩ => ⟨x :: xs, H2, I2, .cons r1 r2, q2⟩

/-- a tuple, a list of written items -/
noncomputable def tTup (t : TA) : TE := fun σ H Q => t σ H fun xs H1 => xs.length ≤ sizeLine ∧ ∀ p, H1 p = none → Q (.ref p) (upd H1 p (.tup xs))
noncomputable def tLst (t : TA) : TE := fun σ H Q => t σ H fun xs H1 => xs.length ≤ sizeLine ∧ ∀ p, H1 p = none → Q (.ref p) (upd H1 p (.lst xs))
theorem pe_tup {x1} (h : PA X es t) : PE X (.Tuple es x1 pos) (tTup t) := by
  intro pins s σ H Q I hq
  refine wpAny_Tuple_spliced (thn (h pos pins s σ H _ I hq) fun us s1 ⟨xs, H1, I1, r, z, q⟩ => ⟨by rw [← r.length]; exact z, ?_⟩)
  have hf : H1 s1.heap.objs.size = none := I1.hok.fresh (Nat.le_refl _)
  refine ⟨.ref s1.heap.objs.size, upd H1 s1.heap.objs.size (.tup xs), I1.laid (t' := s1.toks) (fun b u e => Heap.get?_push_of_some _ e) (Nat.le_refl _) ?_, rfl, q _ hf⟩
  exact ⟨z, us, r, ⟨_, Heap.get?_push_size _ rfl, rfl, _, rfl⟩⟩
theorem pe_lst (h : PA X es t) : PE X (.List es pos) (tLst t) := by
  intro pins s σ H Q I hq
  refine wpAny_List_spliced (thn (h pos pins s σ H _ I hq) fun us s1 ⟨xs, H1, I1, r, z, q⟩ => ⟨by rw [← r.length]; exact z, ?_⟩)
  have hf : H1 s1.heap.objs.size = none := I1.hok.fresh (Nat.le_refl _)
  refine ⟨.ref s1.heap.objs.size, upd H1 s1.heap.objs.size (.lst xs), I1.laid (t' := s1.toks) (fun b u e => Heap.get?_push_of_some _ e) (Nat.le_refl _) ?_, rfl, q _ hf⟩
  exact ⟨z, us, 0, r, Heap.get?_push_size _ rfl⟩
end

/-! ### what a def promises -/
/-- a def's promise: the bound arguments in the parameters' order, the heap, the wanted end, the wanted exception -/
noncomputable abbrev Sp := List V → Hp → VK → XK → Prop
/-- how an exception lies behind a call (file 08 gives it): the callers' frames, abstract heap and state ahead of the call, the wish, the exception, the state -/
noncomputable abbrev CXT := List Env → Hp → Shared → XK → Value → Shared → Prop

/-- the state at a call -/
structure Env0 (P : Program) (w : World) (K : PySem.W.Frag) (mg : Str → Option Value) (base : Heap) (A : Around) (outer : List Env) (s : Shared) (H : Hp) : Prop where
  frames : A.frames = some outer
  mod : Mod K mg base
  bs : ∀ b o, base.get? b = some o → s.heap.get? b = some o ∧ H b = none
  bsz : base.objs.size ≤ s.heap.objs.size
  funs : s.heap.FunFrames base outer
  frf : ∀ b ∈ frs outer, H b = none
  hok : HOk P w H s.heap
  bare : AllBare s.gens
/-- a call's end -/
noncomputable def CE (outer : List Env) (P : Program) (w : World) (H : Hp) (s : Shared) (Q : VK) (u : Value) (s' : Shared) : Prop :=
  ∃ v H', s'.os = s.os ∧ AllBare s'.gens ∧ Un (frs outer) [] H H' s.heap s'.heap ∧ HOk P w H' s'.heap ∧ RelV v u ∧ Q v H'
noncomputable def CR (CX : CXT) (outer : List Env) (P : Program) (w : World) (H : Hp) (s : Shared) (Q : VK) (E : XK) (r : Result) (s' : Shared) : Prop :=
  match r with
  | .ok (.ret u) => CE outer P w H s Q u s'
  | .ok _ => False
  | .error e => CX outer H s E e s'
structure FnOk (P : Program) (w : World) (K : PySem.W.Frag) (mg : Str → Option Value) (base : Heap) (CX : CXT) (k : Nat) (f : Addr) (fd : FuncData) (ps : List Str) (sp : Sp) : Prop where
  len : ∀ vs H Q E, sp vs H Q E → vs.length = ps.length
  run : ∀ (A : Around) (outer : List Env) (s : Shared) (H : Hp) (args : Args) (us : List Value) (vs : List V) (Q : VK) (E : XK), Room k A → Env0 P w K mg base A outer s H → BindsTo s fd args (ps.zip us) → Vals vs us → sp vs H Q E →
    codeAny (model P w) A (.call (.ref f) args) (CR CX outer P w H s Q E) s
section
variable {X : Cx} {pins : List (Addr × Obj)} {σ : St} {H : Hp} {s s' : Shared}
/-- from a body: what a callee wants -/
theorem Inv.env0 (I : Inv X pins σ H s) : Env0 X.prog X.w X.K X.mg X.base X.A X.stack s H :=
  ⟨I.ok.frames, I.ok.mod, I.bs, Nat.le_trans I.ok.bsz I.sz, I.stack, I.stkFree, I.hok, I.bare⟩
/-- behind a call -/
theorem Inv.after {Q : VK} {u : Value} (I : Inv X pins σ H s) (h : CE X.stack X.prog X.w H s Q u s') : EP X pins σ Q u s' := by
  obtain ⟨v, H', os, bare, un, hok, r, q⟩ := h
  obtain ⟨hh, g, d, t, os'⟩ := s'
  obtain rfl : os' = s.os := os
  exact ⟨v, H', I.call (h' := hh) (g' := g) (d' := d) (t' := t) (ch := []) un hok bare (fun b z => absurd z (by simp)), r, q⟩
end

/-! ### calls -/
/-- f(..): the written arguments, then the defaults dvs; E: what is wanted of an exception -/
noncomputable def tCall (sp : Sp) (dvs : List V) (E : XK) (t : TA) : TE := fun σ H Q => t σ H fun vs H1 => sp (vs ++ dvs) H1 Q E
/-- how the parameters are bound: us the positional arguments, kw the keywords' values by name, ds the defaults that fill up -/
noncomputable def Binds (K : PySem.W.Frag) (fd : FuncData) (ps : List Str) (ds : List Value) : Prop :=
  ∀ (s : Shared) (us : List Value), K.In s.heap → (us ++ ds).length = ps.length → BindsTo s fd ⟨us, []⟩ (ps.zip (us ++ ds))
/-- every parameter is given -/
theorem Binds.all {K : PySem.W.Frag} {fd : FuncData} {ps : List Str} (h : ∀ us : List Value, us.length = ps.length → bindArgs fd ⟨us, []⟩ = pure (ps.zip us)) : Binds K fd ps [] := fun s us _ hl => by
  rw [List.append_nil] at hl ⊢
  exact .of_eq (h us hl)

/-- an exception of a callee reaches what this body wants of exceptions -/
noncomputable def Passes (CX : CXT) (X : Cx) (E : XK) : Prop := ∀ (pins : List (Addr × Obj)) (σ : St) (H : Hp) (s : Shared) (e : Value) (s' : Shared), Inv X pins σ H s → CX X.stack H s E e s' → X.xe e s'

section
variable {X : Cx} {CX : CXT} {k : Nat} {f C : Addr} {fd : FuncData} {ps : List Str} {sp : Sp} {dvs : List V} {ds : List Value} {E : XK} {x m : Str} {p pos apos : Pos} {e o : Expr} {es : List Expr} {ta : TE} {t : TA}

/-- the callee runs -/
theorem run_fn {pins : List (Addr × Obj)} {σ : St} {H : Hp} {s : Shared} {Q : VK} {us : List Value} {vs : List V} (F : FnOk X.prog X.w X.K X.mg X.base CX k f fd ps sp) (hr : Room k X.A) (hb : Binds X.K fd ps ds) (hd : Vals dvs ds) (hx : Passes CX X E)
    (I : Inv X pins σ H s) (r : Vals vs us) (h : sp (vs ++ dvs) H Q E) : wpAny (model X.prog X.w) X.A (call (.ref f) us) (EP X pins σ Q) X.xe s := by
  have r2 : Vals (vs ++ dvs) (us ++ ds) := r.append hd
  have hl : (us ++ ds).length = ps.length := by rw [← r2.length]; exact F.len _ _ _ _ h
  refine wpAny_call (codeAny_mono (F.run X.A X.stack s H ⟨us, []⟩ (us ++ ds) (vs ++ dvs) Q E hr I.env0 (hb s us I.kIn hl) r2 h) fun r s' hq => ?_)
  cases r with
  | error e => exact hx pins σ H s e s' I hq
  | ok fl =>
    cases fl with
    | ret u => exact I.after hq
    | next => exact False.elim hq
    | brk => exact False.elim hq
    | cont => exact False.elim hq

theorem pe_call (F : FnOk X.prog X.w X.K X.mg X.base CX k f fd ps sp) (hr : Room k X.A) (hg : Gl X x) (hm : X.mg x = some (.ref f)) (hk : PySem.W.keepIn X.K (.ref f) = true) (hb : Binds X.K fd ps ds) (hd : Vals dvs ds) (hx : Passes CX X E)
    (ha : PA X (e :: es) t) (hdb : (x == ("__debug__" : Str)) = false := by decide) (he : starEach (e :: es) X.env = (false, eval e X.env) :: starEach es X.env := by rfl) (hpl : (backTo pos (starEach es X.env)).any (·.1) = false := by rfl) :
    PE X (.Call (.Name x p) (e :: es) [] pos) (tCall sp dvs E t) := by
  intro pins s σ H Q I h
  refine wpAny_Call_Name_kw (ld_glob I hg hm ?_ hdb)
  refine PySem.W.callWith_K (h₀ := X.base) I.ok.mod.kin hk (thn (ha pos pins s σ H _ I h) fun us s1 ⟨vs, H1, I1, r, q⟩ => ⟨I1.kIn, ?_⟩) he hpl
  exact run_fn F hr hb hd hx I1 r q
end

/-! ### keywords -/

/-! ### a def's body keeps its promise -/
/-- names: the parameters first -/
structure FnScope (N P : List Str) (sc : Scope) : Prop where
  kind : sc.kind = .function
  co : sc.isCoroutine = false
  gen : sc.isGenerator = false
  nd : N.Nodup
  pre : N.take P.length = P
  par : ∀ x ∈ P, sc.names.lookup x = some .local ∨ sc.names.lookup x = some .cell
  nofree : ∀ y ∈ sc.names, y.2 ≠ .free

theorem bindL_out {kindOf : Str → Option NameKind} {x : Str} : ∀ {binds : List (Str × Value)} {m : Str → Option Value}, (∀ v, (x, v) ∉ binds) → bindL kindOf binds m x = m x
  | [], _, _ => rfl
  | (n, v) :: r, m, h => by
    unfold bindL
    rw [bindL_out fun w hw => h w (List.mem_cons_of_mem _ hw)]
    split
    · have : x ≠ n := by rintro rfl; exact h v List.mem_cons_self
      simp [this]
    · rfl
theorem bindC_out {kindOf : Str → Option NameKind} {x : Str} : ∀ {binds : List (Str × Value)} {m : Str → Option Value}, (∀ v, (x, v) ∉ binds) → bindC kindOf binds m x = m x
  | [], _, _ => rfl
  | (n, v) :: r, m, h => by
    unfold bindC
    rw [bindC_out fun w hw => h w (List.mem_cons_of_mem _ hw)]
    split
    · rfl
    · have : x ≠ n := by rintro rfl; exact h v List.mem_cons_self
      simp [this]
theorem bindL_get {kindOf : Str → Option NameKind} {x : Str} {v : Value} : ∀ {P : List Str} {vs : List Value} {i : Nat} {m : Str → Option Value}, P.Nodup → P[i]? = some x → vs[i]? = some v → kindOf x = some .local →
    bindL kindOf (P.zip vs) m x = some v
  | [], _, _, _, _, h, _, _ => by simp at h
  | _ :: _, [], _, _, _, _, h, _ => by simp at h
  | p :: P, w :: vs, 0, m, nd, h1, h2, hk => by
    simp at h1 h2; subst h1; subst h2
    show bindL kindOf ((p, w) :: P.zip vs) m p = _
    unfold bindL
    rw [bindL_out fun v hv => (List.nodup_cons.mp nd).1 (List.of_mem_zip hv).1, if_pos hk]
    simp
  | p :: P, w :: vs, i + 1, m, nd, h1, h2, hk => by
    show bindL kindOf ((p, w) :: P.zip vs) m x = _
    unfold bindL
    exact bindL_get (i := i) (List.nodup_cons.mp nd).2 (by simpa using h1) (by simpa using h2) hk
theorem bindC_get {kindOf : Str → Option NameKind} {x : Str} {v : Value} : ∀ {P : List Str} {vs : List Value} {i : Nat} {m : Str → Option Value}, P.Nodup → P[i]? = some x → vs[i]? = some v → kindOf x ≠ some .local →
    bindC kindOf (P.zip vs) m x = some v
  | [], _, _, _, _, h, _, _ => by simp at h
  | _ :: _, [], _, _, _, _, h, _ => by simp at h
  | p :: P, w :: vs, 0, m, nd, h1, h2, hk => by
    simp at h1 h2; subst h1; subst h2
    show bindC kindOf ((p, w) :: P.zip vs) m p = _
    unfold bindC
    rw [bindC_out fun v hv => (List.nodup_cons.mp nd).1 (List.of_mem_zip hv).1, if_neg hk]
    simp
  | p :: P, w :: vs, i + 1, m, nd, h1, h2, hk => by
    show bindC kindOf ((p, w) :: P.zip vs) m x = _
    unfold bindC
    exact bindC_get (i := i) (List.nodup_cons.mp nd).2 (by simpa using h1) (by simpa using h2) hk

/-- the names' values at the entry -/
noncomputable def start (N : List Str) (vs : List V) : St := vs.map some ++ List.replicate (N.length - vs.length) none

/-- the context of a def's body, at its entry; an exception leaves the frame, then lies as CX says -/
noncomputable def cxOf (CX : CXT) (P : Program) (w : World) (K : PySem.W.Frag) (mg : Str → Option Value) (base : Heap) (N : List Str) (qual : Str) (scope : Scope) (f : Addr) (cd : Value) (A : Around) (outer : List Env) (s : Shared) (H : Hp) (E : XK) : Cx where
  prog := P
  w := w
  K := K
  mg := mg
  base := base
  A := A.deeper (envOfC qual scope s.heap.objs.size f cd)
  N := N
  s₀ := s
  H₀ := H
  env := envOfC qual scope s.heap.objs.size f cd
  outer := outer
  stack := envOfC qual scope s.heap.objs.size f cd :: outer
  ex := []
  calm := true
  fn := fun _ => true
  pn := []
  xe := fun e s' => wpAny (model P w) (A.deeper (envOfC qual scope s.heap.objs.size f cd)) (leaving (envOfC qual scope s.heap.objs.size f cd) e) (fun _ s'' => CX outer H s E e s'') (fun e' s'' => CX outer H s E e' s'') s'

theorem cell_has {sc : Scope} {n : Nat} {x : Str} (h : sc.names.lookup x = some .cell) : ∃ c, (cellsFrom n sc.names []).lookup x = some c := by
  have q := PySem.W.cellsFrom_some sc.names n [] (.inl h)
  exact Option.isSome_iff_exists.mp q

theorem inv_start {CX : CXT} {P : Program} {w : World} {K : PySem.W.Frag} {mg : Str → Option Value} {base : Heap} {N ps : List Str} {qual : Str} {scope : Scope} {f : Addr} {cd : Value} {A : Around} {outer : List Env} {s s1 : Shared} {H : Hp} {E : XK} {us : List Value} {vs : List V}
    (S : FnScope N ps scope) (hd : A.handled = none) (e0 : Env0 P w K mg base A outer s H) (hl : vs.length = ps.length) (r : Vals vs us)
    (x : InCallC s s.heap.objs.size (bindL (envOfC qual scope s.heap.objs.size f cd).kindOf (ps.zip us) fun _ => none) (cellsFrom (s.heap.objs.size + 1) scope.names []) (bindC (envOfC qual scope s.heap.objs.size f cd).kindOf (ps.zip us) fun _ => none) s1) :
    Inv (cxOf CX P w K mg base N qual scope f cd A outer s H E) [] (start N vs) H s1 := by
  have hpl : ps.length ≤ N.length := by have := congrArg List.length S.pre; rw [List.length_take] at this; (first | lia | omega)
  obtain ⟨h1, tk, rfl, hk⟩ := x.done
  have noA : ∀ b : Addr, b ∉ (cxOf CX P w K mg base N qual scope f cd A outer s H E).ex := fun b z => absurd (show b ∈ ([] : List Addr) from z) (by simp)
  refine ⟨⟨e0.mod, S.kind, rfl, rfl, Nat.le_refl _, fun y z c h1 h2 => ?_, fun y hy => ?_, fun y c _ h => ?_, fun _ => hd, Around.frames_deeper e0.frames, .inr ⟨rfl, rfl⟩, fun b z => absurd z (noA b), e0.bs, e0.bsz, fun b _ _ => noA b, fun b z => absurd z (noA b), e0.funs, e0.frf⟩,
    rfl, e0.bare, Un.kept hk, ⟨_, x.toInCall.ns, fun i y v h1 h2 h3 => ?_⟩, fun y c h => ⟨_, x.cell y c h⟩, e0.hok.fresh (Nat.le_refl _), fun y c h => ?_, fun p hp => absurd (show p ∈ ([] : List (Addr × Obj)) from hp) (by simp), e0.hok.kept hk, ?_⟩
  · exact name_of_addr x.apart (PySem.mem_of_lookup h1) (PySem.mem_of_lookup h2)
  · have hy : scope.names.lookup y = some .cell ∨ scope.names.lookup y = some .free := hy
    rcases hy with hy | hy
    · exact cell_has hy
    · exact absurd rfl (S.nofree _ (PySem.mem_of_lookup hy))
  · exact Nat.le_of_lt (x.above y c (PySem.mem_of_lookup h))
  · have hi : i < vs.length := by
      unfold start at h2
      by_cases hi : i < vs.length
      · exact hi
      · rw [List.getElem?_append_right (by simpa using hi)] at h2
        rw [List.getElem?_replicate] at h2
        split at h2 <;> cases h2
    have ha : vs[i]? = some v := by
      unfold start at h2
      rw [List.getElem?_append_left (by simpa using hi), List.getElem?_map] at h2
      cases e : vs[i]? with
      | none => rw [e] at h2; cases h2
      | some a => rw [e] at h2; cases h2; rfl
    obtain ⟨u, hu, rv⟩ := r.get ha
    have hp : ps[i]? = some y := by
      rw [← S.pre, List.getElem?_take_of_lt (by (first | lia | omega))]; exact h1
    have ndP : ps.Nodup := by rw [← S.pre]; exact S.nd.sublist (List.take_sublist _ _)
    refine ⟨u, rv, ?_⟩
    rcases S.par y (List.mem_of_getElem? hp) with k | k
    · exact .inl ⟨k, bindL_get ndP hp hu k⟩
    · obtain ⟨c, e⟩ := cell_has (n := s.heap.objs.size + 1) k
      refine .inr ⟨.inl k, c, e, ?_⟩
      have q := x.cell y c e
      rw [bindC_get ndP hp hu (by show scope.names.lookup y ≠ _; rw [k]; decide)] at q
      exact q
  · exact e0.hok.fresh (Nat.le_of_lt (x.above y c (PySem.mem_of_lookup h)))
  · unfold start
    show _ = N.length
    rw [List.length_append, List.length_map, List.length_replicate]
    (first | lia | omega)

/-- THE RULE: a def (or a method) of the text, by its body. The body's reading t is chosen for each entry; it is run at the parameters' values -/
theorem fn_of {CX : CXT} {P : Program} {w : World} {K : PySem.W.Frag} {mg : Str → Option Value} {base : Heap} {k : Nat} {f : Addr} {name qual : Str} {params : Arguments} {body : List Stmt} {scope : Scope} {dV kV doc pm cdv ct oc : Value} {an od : Option Addr}
    {osl : Array (Option Value)} {N ps : List Str} {sp : Sp} (lk : K.lookup f = some ⟨oc, od, .func (PySem.W.fnOf name qual params body scope dV kV doc pm an cdv ct), osl⟩) (hcd : PySem.W.codeIn K cdv qual = true) (S : FnScope N ps scope)
    (len : ∀ vs H Q E, sp vs H Q E → vs.length = ps.length)
    (hbody : ∀ (A : Around) (outer : List Env) (s : Shared) (H : Hp) (vs : List V) (Q : VK) (E : XK), Room k (A.deeper (envOfC qual scope s.heap.objs.size f cdv)) → sp vs H Q E →
      ∃ t, PSs (cxOf CX P w K mg base N qual scope f cdv A outer s H E) body t ∧ t { nx := fun _ H' => Q .non H', rt := Q } (start N vs) H) :
    FnOk P w K mg base CX (k + 1) f (PySem.W.fnOf name qual params body scope dV kV doc pm an cdv ct) ps sp := by
  refine ⟨len, fun A outer s H args us vs Q E hr e0 hb r hsp => ?_⟩
  have hl := len _ _ _ _ hsp
  have KX : K.In s.heap := e0.mod.kin.keeps fun b o e => (e0.bs b o e).1
  have lim : s.heap.NoLimit := e0.mod.nolimit.keeps fun b o e => (e0.bs b o e).1
  have hkind : ∀ y ∈ ps.zip us, scope.names.lookup y.1 = some .local ∨ (scope.names.lookup y.1 = some .cell ∧ ((cellsFrom (s.heap.objs.size + 1) scope.names []).lookup y.1).isSome = true) := fun ⟨n, v⟩ hy => by
    rcases S.par n (List.of_mem_zip hy).1 with q | q
    · exact .inl q
    · exact .inr ⟨q, PySem.W.cellsFrom_some _ _ _ (.inl q)⟩
  refine codeAny_call_function hr.depth (KX _ _ lk) rfl S.co S.gen rfl (PySem.W.codeRec_of KX hcd) (hb _ _ _ _ ?_)
  refine wpAny_newFunctionEnv_cells S.kind hkind fun env he s1 x => ?_
  subst he
  refine ⟨lim.keeps x.toInCall.keep, codeAny_func ?_⟩
  obtain ⟨t, ht, hq⟩ := hbody A outer s H vs Q E (hr.deeper _) hsp
  have I : Inv (cxOf CX P w K mg base N qual scope f cdv A outer s H E) [] (start N vs) H s1 := inv_start S hr.hd e0 hl r x
  refine wpAny_mono (ht [] s1 (start N vs) H _ I hq) (fun fl s' hs => ?_) fun e s' hs => hs
  have fin : ∀ {σ' : St} {H' : Hp} {v : V} {u : Value}, Inv (cxOf CX P w K mg base N qual scope f cdv A outer s H E) [] σ' H' s' → RelV v u → Q v H' → CE outer P w H s Q u s' :=
    fun {σ' H' v u} J rv q => ⟨v, H', J.os, J.bare, J.base, J.hok, rv, q⟩
  cases fl with
  | ret u =>
    obtain ⟨v, σ', H', J, rv, q⟩ := hs
    exact fin J rv q
  | next =>
    obtain ⟨σ', H', J, q⟩ := hs
    exact fin (v := V.non) (u := Value.none) J rfl q
  | brk =>
    obtain ⟨_, _, _, q⟩ := hs
    exact False.elim q
  | cont =>
    obtain ⟨_, _, _, q⟩ := hs
    exact False.elim q
end L2

namespace L2
open PySem PySem.Spec PyProof.Rows
section
variable {X : Cx} {x : Str} {p pos : Pos} {e : Expr} {es : List Expr} {t : TA} {id T : String} {r : List V → Hp → VK → Prop}

noncomputable def tCB (r : List V → Hp → VK → Prop) (t : TA) : TE := fun σ H Q => t σ H fun vs H1 => r vs H1 Q
/-- f(e, ..), f a built-in function -/
theorem pe_callB (hc : CallR X (.builtin id) r) (hg : Gl X x) (hm : X.mg x = none) (hv : bootBuiltins x = some (.builtin id)) (ha : PA X (e :: es) t) (hn : x ≠ "__name__" := by decide) (hdb : (x == ("__debug__" : Str)) = false := by decide)
    (he : starEach (e :: es) X.env = (false, eval e X.env) :: starEach es X.env := by rfl) (hpl : (backTo pos (starEach es X.env)).any (·.1) = false := by rfl) : PE X (.Call (.Name x p) (e :: es) [] pos) (tCB r t) := by
  intro pins s σ H Q I h
  refine wpAny_Call_Name_kw (ld_blt I hg hm hv ?_ hn hdb)
  exact PyProof.Rows.callWith_builtin1 (thn (ha pos pins s σ H _ I h) fun us s1 ⟨vs, H1, I1, r1, q1⟩ => hc pins s1 σ H1 vs us Q I1 r1 q1) he hpl
/-- T(e, ..), T a built-in type -/
theorem pe_callTy (hc : CallR X (.type T) r) (hg : Gl X x) (hm : X.mg x = none) (hv : bootBuiltins x = some (.type T)) (ha : PA X (e :: es) t) (hn : x ≠ "__name__" := by decide) (hdb : (x == ("__debug__" : Str)) = false := by decide)
    (he : starEach (e :: es) X.env = (false, eval e X.env) :: starEach es X.env := by rfl) (hpl : (backTo pos (starEach es X.env)).any (·.1) = false := by rfl) : PE X (.Call (.Name x p) (e :: es) [] pos) (tCB r t) := by
  intro pins s σ H Q I h
  refine wpAny_Call_Name_kw (ld_blt I hg hm hv ?_ hn hdb)
  exact PyProof.Rows.callWith_type1 (thn (ha pos pins s σ H _ I h) fun us s1 ⟨vs, H1, I1, r1, q1⟩ => hc pins s1 σ H1 vs us Q I1 r1 q1) he hpl
end
end L2

namespace HT
open PySem PyProof.Rows


section
variable {prog : Program} {w : World} {A : Around} {E : Value → Shared → Prop} {s : Shared}

/-! ### t[a:b], not the whole -/
/-- a slice's bound as a place among n (d where it is left out) -/
noncomputable def sIx (n d : Nat) : Option Int → Nat
  | none => d
  | some v => if v < 0 then (v + (n : Int)).toNat else min v.toNat n
theorem sIx_none (n d : Nat) : sIx n d none = d := rfl
theorem sIx_nat (n d k : Nat) : sIx n d (some (k : Int)) = min k n := by
  show (if (k : Int) < 0 then ((k : Int) + (n : Int)).toNat else min (k : Int).toNat n) = min k n
  rw [if_neg (by (first | lia | omega)), Int.toNat_natCast]
end
end HT

namespace L2
open PySem PySem.Spec PyProof.Rows

/-! ### the parts of a slice -/
noncomputable abbrev TO := St → Hp → (Option Int → Hp → Prop) → Prop
/-- a slice's part (left out, or an int) -/
noncomputable def PO (X : Cx) (e : Option Expr) (t : TO) : Prop :=
  ∀ (pins : List (Addr × Obj)) (s : Shared) (σ : St) (H : Hp) (Q : Option Int → Hp → Prop), Inv X pins σ H s → t σ H Q →
    wpAny (model X.prog X.w) X.A (evalPart e X.env) (fun u s' => ∃ o H', Inv X pins σ H' s' ∧ IsPart u o ∧ Q o H') X.xe s
noncomputable def tNoPart : TO := fun _ H Q => Q none H
noncomputable def tPart (t : TE) : TO := fun σ H Q => t σ H fun x H1 => ∃ i, x = .int i ∧ Q (some i) H1

section
variable {X : Cx} {e : Expr} {te : TE} {lo hi : Option Expr} {tl th : TO} {pos p2 : Pos}

theorem po_none : PO X none tNoPart := by
  intro pins s σ H Q I h
  rw [evalPart_none]
  exact wpAny_pure ⟨none, H, I, .none, h⟩
theorem po_some (h : PE X e te) : PO X (some e) (tPart te) := by
  intro pins s σ H Q I hw
  rw [evalPart_some]
  refine thn (h pins s σ H _ I hw) fun u s1 ⟨x, H1, I1, r1, q1⟩ => ?_
  obtain ⟨i, rfl, q⟩ := q1
  obtain ⟨t, rfl⟩ := r1
  exact ⟨some i, H1, I1, .int i t, q⟩

/-- what a slice of a value is, by values: the slice object stands at sl -/
noncomputable def SlR (X : Cx) (r : V → Option Int → Option Int → Hp → VK → Prop) : Prop :=
  ∀ (pins : List (Addr × Obj)) (s : Shared) (σ : St) (H : Hp) (x : V) (v vl vu : Value) (lo hi : Option Int) (sl : Addr) (Q : VK), Inv X pins σ H s → RelV x v → s.heap.IsSliceOf sl vl vu .none → IsPart vl lo → IsPart vu hi → r x lo hi H Q →
    ∃ T id, typeLookup (.type T) "__getitem__" = pure (some (.builtin id)) ∧ s.TypeIs v T ∧ wpAny (model X.prog X.w) X.A (getItem v (.ref sl)) (EP X pins σ Q) X.xe s
noncomputable def tSl (r : V → Option Int → Option Int → Hp → VK → Prop) (te : TE) (tl th : TO) : TE := fun σ H Q => te σ H fun x H1 => tl σ H1 fun l H2 => th σ H2 fun u H3 => r x l u H3 Q
/-- a[lo:hi], any a -/
theorem pe_slice {r : V → Option Int → Option Int → Hp → VK → Prop} (hr : SlR X r) (he : PE X e te) (hl : PO X lo tl) (hu : PO X hi th) : PE X (.Subscript e (.Slice lo hi none p2) pos) (tSl r te tl th) := by
  intro pins s σ H Q I h
  refine Subscript_ (thn (he pins s σ H _ I h) fun v s1 ⟨x, H1, I1, r1, q1⟩ => ?_)
  refine wpAny_Slice (thn (hl pins s1 σ H1 _ I1 q1) fun vl s2 ⟨l, H2, I2, pl, q2⟩ => thn (hu pins s2 σ H2 _ I2 q2) fun vu s3 ⟨u, H3, I3, pu, q3⟩ => ?_)
  rw [evalPart_none]
  refine wpAny_pure ?_
  have I4 : Inv X pins σ H3 { s3 with heap := s3.heap.push { cls := .type "slice", data := .fields #[vl, vu, .none] } } := I3.kept (t' := s3.toks) fun b ob q => Heap.get?_push_of_some _ q
  obtain ⟨T, id, hT, ht, hg⟩ := hr pins { s3 with heap := s3.heap.push { cls := .type "slice", data := .fields #[vl, vu, .none] } } σ H3 x v vl vu l u s3.heap.objs.size Q I4 r1 (Heap.IsSliceOf.new ..) pl pu q3
  show wpAny (model X.prog X.w) X.A (subscriptTail e (.Slice lo hi none p2) v (.ref s3.heap.objs.size)) (EP X pins σ Q) X.xe { s3 with heap := s3.heap.push { cls := .type "slice", data := .fields #[vl, vu, .none] } }
  exact tail_any (ops := [.ref s3.heap.objs.size, v]) ht hT hg (by with_unfolding_all rfl)

/-- the items of xs[lo:hi] -/
noncomputable def cutV (xs : List V) (lo hi : Option Int) : List V := (xs.drop (HT.sIx xs.length 0 lo)).take (HT.sIx xs.length xs.length hi - HT.sIx xs.length 0 lo)
theorem cutV_length (xs : List V) (lo hi : Option Int) : (cutV xs lo hi).length ≤ xs.length := by
  unfold cutV
  rw [List.length_take, List.length_drop]
  (first | lia | omega)
/-! ### t < u, t + u -/
end
end L2

namespace L2
open PySem PySem.Spec PyProof.Rows

/-! ### places -/
/-- the place that an index of any sign means -/
noncomputable def ixN (n : Nat) (i : Int) : Option Nat := if 0 ≤ i then (if i < n then some i.toNat else none) else if -(n : Int) ≤ i then some (i + n).toNat else none
noncomputable def atI {α : Type} (xs : List α) (i : Int) : Option α := (ixN xs.length i).bind fun j => xs[j]?
theorem ixN_seq {n : Nat} {i : Int} {j : Nat} (h : ixN n i = some j) : seqIndex? i n = some j ∧ j < n ∧ -(n : Int) ≤ i ∧ i < n := by
  unfold ixN at h
  by_cases h0 : 0 ≤ i
  · rw [if_pos h0] at h
    by_cases h1 : i < n
    · rw [if_pos h1] at h
      have e : i.toNat = j := Option.some.inj h
      exact ⟨by rw [seqIndex_of h0 h1, e], by (first | lia | omega), by (first | lia | omega), h1⟩
    · rw [if_neg h1] at h; cases h
  · rw [if_neg h0] at h
    by_cases h1 : -(n : Int) ≤ i
    · rw [if_pos h1] at h
      have e : (i + n).toNat = j := Option.some.inj h
      exact ⟨by rw [seqIndex_neg (by (first | lia | omega)) h1, e], by (first | lia | omega), h1, by (first | lia | omega)⟩
    · rw [if_neg h1] at h; cases h
theorem atI_get {α : Type} {xs : List α} {i : Int} {v : α} (h : atI xs i = some v) : ∃ j, seqIndex? i xs.length = some j ∧ xs[j]? = some v ∧ j < xs.length ∧ -(xs.length : Int) ≤ i ∧ i < xs.length := by
  unfold atI at h
  cases e : ixN xs.length i with
  | none => rw [e] at h; cases h
  | some j =>
    rw [e] at h
    obtain ⟨h1, h2, h3, h4⟩ := ixN_seq e
    exact ⟨j, h1, h, h2, h3, h4⟩
theorem atI_nat {α : Type} {xs : List α} {j : Nat} {v : α} (h : xs[j]? = some v) : atI xs (j : Int) = some v := by
  have hj : j < xs.length := (List.getElem?_eq_some_iff.mp h).1
  have e : ixN xs.length (j : Int) = some j := by
    unfold ixN
    rw [if_pos (by (first | lia | omega)), if_pos (by (first | lia | omega))]; simp
  unfold atI; rw [e]; exact h
/-! ### what may be subscripted -/
/-- what stands as an index of a plain subscript -/
noncomputable def PlainIx (b : Expr) : Prop := ∀ o i, subscripted b false o i = operate [o, i] (getItem o i)
/-- a subscript by values -/
noncomputable def IxR (X : Cx) (r : R2) : Prop :=
  ∀ (value slice : Expr) (pins : List (Addr × Obj)) (s : Shared) (σ : St) (H : Hp) (x y : V) (v u : Value) (Q : VK), Inv X pins σ H s → RelV x v → RelV y u → r x y H Q →
    subscripted slice false v u = operate [v, u] (getItem v u) → wpAny (model X.prog X.w) X.A (subscriptTail value slice v u) (EP X pins σ Q) X.xe s
/-- a call of a builtin's method by values: the receiver, the arguments -/
noncomputable def MtR (X : Cx) (id : String) (r : V → List V → Hp → VK → Prop) : Prop :=
  ∀ (pins : List (Addr × Obj)) (s : Shared) (σ : St) (H : Hp) (x : V) (xs : List V) (v : Value) (us : List Value) (Q : VK), Inv X pins σ H s → RelV x v → Vals xs us → r x xs H Q →
    wpAny (model X.prog X.w) X.A (call (.builtin id) (v :: us)) (EP X pins σ Q) X.xe s
section
variable {X : Cx} {a b : Expr} {ta tb : TE} {pos : Pos}
/-- a[b] -/
theorem pe_ix {r : R2} (hr : IxR X r) (ha : PE X a ta) (hb : PE X b tb) (hs : PlainIx b) : PE X (.Subscript a b pos) (tOp r ta tb) := by
  intro pins s σ H Q I h
  exact Subscript_ (binT ha hb I h fun v u s2 x y H2 I2 rx ry q => hr a b pins s2 σ H2 x y v u Q I2 rx ry q (hs _ _))

inductive I_rIxL (K : PySem.W.Frag) (x y : V) (H : Hp) (Q : VK) : Prop where
  | mk (p : Addr) (xs : List V) (i : Int) (v : V) (h0_ : x = .ref p) (h1_ : y = .int i) (h2_ : SqL K H p xs) (h3_ : atI xs i = some v) (h4_ : Q v H) : I_rIxL K x y H Q
noncomputable def rIxL (K : PySem.W.Frag) : R2 := fun x y H Q => I_rIxL K x y H Q
inductive I_rIxT (K : PySem.W.Frag) (x y : V) (H : Hp) (Q : VK) : Prop where
  | mk (p : Addr) (xs : List V) (i : Int) (v : V) (h0_ : x = .ref p) (h1_ : y = .int i) (h2_ : SqT K H p xs) (h3_ : atI xs i = some v) (h4_ : Q v H) : I_rIxT K x y H Q
noncomputable def rIxT (K : PySem.W.Frag) : R2 := fun x y H Q => I_rIxT K x y H Q
noncomputable def rIxS : R2 := fun x y H Q => ∃ z i c, x = .str z ∧ y = .int i ∧ z.length ≤ sizeLine ∧ atI z.cps.toList i = some c ∧ Q (.str ⟨#[c]⟩) H
theorem ix_list : IxR X (rIxL X.K) := by
  intro value slice pins s σ H x y v u Q I rx ry h hs
  obtain ⟨p, xs, i, z, rfl, rfl, hq, he, q⟩ := h
  cases rx
  obtain ⟨t, rfl⟩ := ry
  obtain ⟨its, r, pl, hz⟩ := I.list hq
  obtain ⟨j, h1, h2, h3, h4, h5⟩ := atI_get he
  obtain ⟨w, ew, rw'⟩ := r.get h2
  have hl := r.length
  have hn := line63
  have fin : EP X pins σ Q w s := ⟨z, H, I, rw', q⟩
  by_cases h0 : 0 ≤ i
  · have hj : i.toNat = j := by
      rw [seqIndex_of h0 h5] at h1
      exact Option.some.inj h1
    exact item_listR pl.isList h0 (by (first | lia | omega)) (by rw [hj]; simpa using ew) fin hs
  · have hj : (i + (its.toArray.size : Int)).toNat = j := by
      rw [seqIndex_neg (by (first | lia | omega)) h4] at h1
      rw [List.size_toArray, ← hl]
      exact Option.some.inj h1
    exact subscriptTail_builtinR (x := w) pl.isList.typeIs slot_list_getitem.lookup
      (wpAny_getItem_list_neg (Q := fun r s' => r = w ∧ EP X pins σ Q r s') pl.isList (by (first | lia | omega)) (by rw [List.size_toArray] <;> (first | lia | omega)) (by (first | lia | omega)) (by rw [hj]; simpa using ew) ⟨rfl, fin⟩) hs
theorem ix_tup : IxR X (rIxT X.K) := by
  intro value slice pins s σ H x y v u Q I rx ry h hs
  obtain ⟨p, xs, i, z, rfl, rfl, hq, he, q⟩ := h
  cases rx
  obtain ⟨t, rfl⟩ := ry
  obtain ⟨its, r, pl, hz⟩ := I.tuple hq
  obtain ⟨j, h1, h2, h3, h4, h5⟩ := atI_get he
  obtain ⟨w, ew, rw'⟩ := r.get h2
  have hl := r.length
  have hn := line63
  have fin : EP X pins σ Q w s := ⟨z, H, I, rw', q⟩
  exact subscriptTail_builtinR (x := w) pl.typeIs slot_tuple_getitem.lookup
    (getItem_tuple (j := j) (Q := fun r s' => r = w ∧ EP X pins σ Q r s') pl (by (first | lia | omega)) (by (first | lia | omega)) (by rw [List.size_toArray, ← hl]; exact h1) (by simpa using ew) ⟨rfl, fin⟩) hs
theorem ix_str : IxR X rIxS := by
  intro value slice pins s σ H x y v u Q I rx ry h hs
  obtain ⟨z, i, c, rfl, rfl, hz, he, q⟩ := h
  obtain ⟨t, rfl⟩ := rx
  obtain ⟨t', rfl⟩ := ry
  obtain ⟨j, h1, h2, h3, h4, h5⟩ := atI_get he
  have hl : z.cps.toList.length = z.length := by simp [Str.length]
  rw [hl] at h1 h4 h5
  have hn := line63
  exact tail_any (typeIs_str s z t) slot_str_getitem.lookup (getItem_str (c := c) (by
    have e1 : decide (i < -(2 ^ 63 : Int)) = false := decide_eq_false (by (first | lia | omega))
    have e2 : decide (i ≥ 2 ^ 63) = false := decide_eq_false (by (first | lia | omega))
    rw [e1, e2, Bool.or_false]) (by rw [h1]; simpa using h2) ⟨.str ⟨#[c]⟩, H, I.tok _, ⟨_, rfl⟩, q⟩) hs
/-! ### xs[i] = v, any sign -/
/-! ### slices -/
theorem slice_bounds (lo hi : Option Int) (n : Nat) : (sliceBounds lo hi none n).1 = ((HT.sIx n 0 lo : Nat) : Int) ∧ (sliceBounds lo hi none n).2.1 = ((HT.sIx n n hi : Nat) : Int) ∧ (sliceBounds lo hi none n).2.2 = 1 := by
  refine ⟨?_, ?_, rfl⟩
  · cases lo with
    | none => simp [sliceBounds, HT.sIx]
    | some i =>
      simp only [sliceBounds, HT.sIx, Option.getD_none, show (1 : Int) > 0 by decide, if_true]
      by_cases h : i < 0
      · simp only [h, if_true] <;> (first | lia | omega)
      · simp only [h, if_false] <;> (first | lia | omega)
  · cases hi with
    | none => simp [sliceBounds, HT.sIx]
    | some i =>
      simp only [sliceBounds, HT.sIx, Option.getD_none, show (1 : Int) > 0 by decide, if_true]
      by_cases h : i < 0
      · simp only [h, if_true] <;> (first | lia | omega)
      · simp only [h, if_false] <;> (first | lia | omega)
theorem slicePick_cut (its : List Value) (lo hi : Option Int) : slicePick its.toArray lo hi none = ((its.drop (HT.sIx its.length 0 lo)).take (HT.sIx its.length its.length hi - HT.sIx its.length 0 lo)).toArray := by
  obtain ⟨h1, h2, h3⟩ := slice_bounds lo hi its.toArray.size
  unfold slicePick
  rw [h1, h2, h3]
  simp only [sliceRange_one, pick_run, List.size_toArray] <;> rfl
/-- xs[lo:hi] of a list: a new list -/
inductive I_rSlL (K : PySem.W.Frag) (x : V) (lo hi : Option Int) (H : Hp) (Q : VK) : Prop where
  | mk (a : Addr) (xs : List V) (h0_ : x = .ref a) (h1_ : SqL K H a xs) (h2_ : ∀ p, H p = none → Q (.ref p) (upd H p (.lst (cutV xs lo hi)))) : I_rSlL K x lo hi H Q
noncomputable def rSlL (K : PySem.W.Frag) : V → Option Int → Option Int → Hp → VK → Prop := fun x lo hi H Q => I_rSlL K x lo hi H Q
theorem sl_list : SlR X (rSlL X.K) := by
  intro pins s σ H x v vl vu lo hi sl Q I rx hs pl pu h
  obtain ⟨a, xs, rfl, hx, q⟩ := h
  cases rx
  obtain ⟨its, r, ht, hz⟩ := I.list hx
  have hlen := r.length
  refine ⟨"list", _, slot_list_getitem.lookup, ht.isList.typeIs, ?_⟩
  refine wpAny_getItem_list_slice ht.isList hs pl pu .none (by simp) ?_ (by rw [List.size_toArray] <;> (first | lia | omega))
  rw [slicePick_cut, ← hlen]
  refine ⟨.ref s.heap.objs.size, _, I.laid (t' := s.toks) (o := .lst (cutV xs lo hi)) (fun b ob q => Heap.get?_push_of_some _ q) (Nat.le_refl _) ?_, rfl, q _ (I.hok.fresh (Nat.le_refl _))⟩
  exact ⟨Nat.le_trans (cutV_length xs lo hi) hz, _, 0, (r.drop (HT.sIx xs.length 0 lo)).take (HT.sIx xs.length xs.length hi - HT.sIx xs.length 0 lo), Heap.get?_push_size _ rfl⟩

/-! ### in, not in: flat items -/
theorem op_notIn_str : OpR X (compareOp .NotIn) (fun x y H Q => ∃ i j, x = .str i ∧ y = .str j ∧ Q (.bl (!(!(Builtin.Str.occurrences j i 0 j.length 1).isEmpty))) H) := by
  intro pins s σ H x y v u Q I rx ry h
  obtain ⟨i, j, rfl, rfl, q⟩ := h
  obtain ⟨t, rfl⟩ := rx
  obtain ⟨t', rfl⟩ := ry
  exact notIn_str ⟨.bl _, H, I, rfl, q⟩

/-! ### len, list(x), tuple(x) of any list or tuple that is read -/
theorem call_len_seq : CallR X (.builtin "len") (fun xs H Q => ∃ p ys, xs = [.ref p] ∧ (SqL X.K H p ys ∨ SqT X.K H p ys) ∧ Q (.int ys.length) H) := by
  intro pins s σ H xs us Q I r h
  obtain ⟨p, ys, rfl, hq, q⟩ := h
  obtain ⟨u, rfl, rx⟩ := vals1 r
  cases rx
  have hn := line63
  rcases hq with hq | hq
  · obtain ⟨its, r', pl, hz⟩ := I.list hq
    have hlen := r'.length
    exact Calls.call_len_list pl.isList (by simp only [List.size_toArray] <;> (first | lia | omega)) ⟨.int ys.length, H, I.tok _, ⟨s.toks + 1, by rw [List.size_toArray, hlen]⟩, q⟩
  · obtain ⟨its, r', pl, hz⟩ := I.tuple hq
    have hlen := r'.length
    exact len_tuple pl (by simp only [List.size_toArray] <;> (first | lia | omega)) ⟨.int ys.length, H, I.tok _, ⟨s.toks + 1, by rw [List.size_toArray, hlen]⟩, q⟩
theorem call_len_str : CallR X (.builtin "len") (fun xs H Q => ∃ z, xs = [.str z] ∧ z.length ≤ sizeLine ∧ Q (.int z.length) H) := by
  intro pins s σ H xs us Q I r h
  obtain ⟨z, rfl, hz, q⟩ := h
  obtain ⟨u, rfl, t, rfl⟩ := vals1 r
  have hn := line63
  exact len_str (by (first | lia | omega)) ⟨.int z.length, H, I.tok _, ⟨_, rfl⟩, q⟩
/-! ### the call of a builtin's method: o.m(..) -/
/-- the value is of that builtin type -/
noncomputable def tyV (K : PySem.W.Frag) (T : String) (x : V) (H : Hp) : Prop := match x with
  | .str _ => T = "str"
  | .int _ => T = "int"
  | .ref p => (T = "list" ∧ ∃ xs, SqL K H p xs) ∨ (T = "tuple" ∧ ∃ o, K.lookup p = some o ∧ o.cls = .type "tuple" ∧ o.dict = none) ∨
      (T = "dict" ∧ ((∃ kvs, H p = some (.dK kvs)) ∨ ∃ kvs, H p = some (.dT kvs))) ∨ (T = "set" ∧ ∃ S n, H p = some (.set S n))
  | _ => False
theorem tyV_is {pins : List (Addr × Obj)} {σ : St} {H : Hp} {s : Shared} {T : String} {x : V} {v : Value} (I : Inv X pins σ H s) (r : RelV x v) (ty : tyV X.K T x H) :
    s.TypeIs v T ∧ ∀ a, v = .ref a → ∃ ob, s.heap.get? a = some ob ∧ ob.dict = none := by
  cases x with
  | str z =>
    obtain ⟨t, rfl⟩ := r
    cases (show T = "str" from ty)
    exact ⟨typeIs_str s z t, fun _ e => nomatch e⟩
  | int i =>
    obtain ⟨t, rfl⟩ := r
    cases (show T = "int" from ty)
    exact ⟨typeIs_int s i t, fun _ e => nomatch e⟩
  | ref p =>
    cases r
    rcases ty with ⟨rfl, xs, hq⟩ | ⟨rfl, o, hk, hc, hd⟩ | ⟨rfl, hk⟩ | ⟨rfl, S, n, hk⟩
    · obtain ⟨its, _, pl, _⟩ := I.list hq
      refine ⟨pl.isList.typeIs, fun a e => ?_⟩
      cases e
      obtain ⟨o, n, e, c, hd, _⟩ := pl
      exact ⟨o, e, hd⟩
    · refine ⟨⟨o, I.kIn p o hk, hc⟩, fun a e => ?_⟩
      cases e
      exact ⟨o, I.kIn _ o hk, hd⟩
    · have z : ∃ o, s.heap.get? p = some o ∧ o.ExactDict := by
        rcases hk with ⟨kvs, hk⟩ | ⟨kvs, hk⟩
        · obtain ⟨_, _, _, _, o, _, _, e, ex, _⟩ := I.hok p _ hk
          exact ⟨o, e, ex⟩
        · obtain ⟨_, _, _, _, o, _, _, e, ex, _⟩ := I.hok p _ hk
          exact ⟨o, e, ex⟩
      obtain ⟨o, e, ex⟩ := z
      refine ⟨⟨o, e, ex.1⟩, fun a e2 => ?_⟩
      cases e2
      exact ⟨o, e, ex.2.1⟩
    · obtain ⟨o, _, _, _, e, ex, _⟩ := I.hok p _ hk
      refine ⟨⟨o, e, ex.1⟩, fun a e2 => ?_⟩
      cases e2
      exact ⟨o, e, ex.2.1⟩
  | _ => exact False.elim ty
noncomputable def tBM (K : PySem.W.Frag) (T : String) (r : V → List V → Hp → VK → Prop) (to : TE) (t : TA) : TE := fun σ H Q => to σ H fun x H1 => tyV K T x H1 ∧ t σ H1 fun xs H2 => r x xs H2 Q
variable {o e : Expr} {es : List Expr} {to : TE} {t : TA} {name : Str} {apos cpos : Pos} {T id : String} {r : V → List V → Hp → VK → Prop}
theorem pe_bm (pa : PlainAttrs T) (slot : Slot T name id) (hty : typeOf (.builtin id) = pure (.type "method_descriptor")) (hm : MtR X id r) (ho : PE X o to) (ha : PA X (e :: es) t)
    (hbase : attributeBase o name X.env (eval o X.env) = eval o X.env := by rfl)
    (hfew : ((backTo cpos (starEach (e :: es) X.env)).all (fun x => !x.1) && (backToKw cpos (keywordEach [] X.env)).all (fun x => x.1.isSome)
      && decide ((e :: es).length + ([] : List Keyword).length + (if ([] : List Keyword).isEmpty then 0 else 1) < 30)) = true := by rfl)
    (hline : (apos.endLine == cpos.line) = true := by rfl) (hs : starEach (e :: es) X.env = (false, eval e X.env) :: starEach es X.env := by rfl) (hplain : (backTo cpos (starEach es X.env)).any (·.1) = false := by rfl) :
    PE X (.Call (.Attribute o name apos) (e :: es) [] cpos) (tBM X.K T r to t) := by
  intro pins s σ H Q I h
  refine wpAny_Call_method_late hbase hfew hline rfl (thn (ho pins s σ H _ I h) fun v s1 ⟨x, H1, I1, r1, ty, q1⟩ => ?_)
  obtain ⟨h1, h2⟩ := tyV_is I1 r1 ty
  refine ⟨T, id, pa, slot, hty, h1, h2, ?_⟩
  have hA := ha cpos pins s1 σ H1 _ I1 q1
  rw [hs] at hA ⊢
  refine Calls.callWith_builtin (by show (false || (backTo cpos (starEach es X.env)).any (·.1)) = false; rw [hplain] <;> rfl) (Calls.evalArgs_plain ?_)
  exact thn hA fun us s2 ⟨vs, H2, I2, r2, q2⟩ => hm pins s2 σ H2 x vs v us Q I2 r1 r2 q2
/- xs.append(e), list.index on a module's tuple .. are MtR facts of 06m -/
end
end L2

namespace L2
open PySem PySem.Spec PyProof.Rows

noncomputable def MtM (X : Cx) (id : String) (r : V → List V → Hp → VK → Prop) : Prop :=
  ∀ (pins : List (Addr × Obj)) (s : Shared) (σ : St) (H : Hp) (x : V) (xs : List V) (v : Value) (us : List Value) (Q : VK), Inv X pins σ H s → RelV x v → Vals xs us → r x xs H Q →
    wpAny (model X.prog X.w) X.A (call (.builtin id) (v :: us)) (EP X pins σ Q) X.xe s

/-! ### lists of values -/
theorem Vals.one : ∀ {x : V} {us : List Value}, Vals [x] us → ∃ u, us = [u] ∧ RelV x u
  | _, _, .cons r .nil => ⟨_, rfl, r⟩
theorem Vals.two : ∀ {x y : V} {us : List Value}, Vals [x, y] us → ∃ u v, us = [u, v] ∧ RelV x u ∧ RelV y v
  | _, _, _, .cons r (.cons q .nil) => ⟨_, _, rfl, r, q⟩
section
variable {X : Cx} {pins : List (Addr × Obj)} {σ : St} {H : Hp} {s : Shared} {l b : Addr} {xs ys zs : List V}

/-! ### the two steps: a tracked list is rewritten, a new list is laid -/
theorem Inv.lset {its its' : List Value} {n : Nat} {f : Array Value → Array Value} {t' : Nat} (I : Inv X pins σ H s) (hH : H l = some (.lst xs))
    (e : s.heap.get? l = some { cls := .type "list", data := .seq its.toArray n }) (hf : f its.toArray = its'.toArray) (hv : Vals ys its') (hz : ys.length ≤ sizeLine) :
    Inv X pins σ (upd H l (.lst ys)) { s with heap := s.heap.update l (Obj.mapSeq f), toks := t' } := by
  have q := PySem.IsL.update e f
  rw [hf] at q
  refine I.write (x := l) (e := l) (by rw [hH]; exact trivial) (.inl rfl) (fun b' u hb hu => (Heap.get?_update_other s.heap (Obj.mapSeq f) (Ne.symm hb)).trans hu) ⟨_, q⟩ ?_
  exact ⟨hz, its', _, hv, q⟩
theorem Inv.lnew {its : List Value} {t' : Nat} (I : Inv X pins σ H s) (hv : Vals ys its) (hz : ys.length ≤ sizeLine) :
    Inv X pins σ (upd H s.heap.objs.size (.lst ys)) { s with heap := s.heap.push { cls := .type "list", data := .seq its.toArray }, toks := t' } :=
  I.laid (fun _ _ q => Heap.get?_push_of_some _ q) (Nat.le_refl _) ⟨hz, its, 0, hv, Heap.get?_push_size _ rfl⟩
theorem Inv.fresh (I : Inv X pins σ H s) : H s.heap.objs.size = none := I.hok.fresh (Nat.le_refl _)
theorem Inv.lstM (I : Inv X pins σ H s) (hH : H l = some (.lst xs)) : xs.length ≤ sizeLine ∧ ∃ (its : List Value) (n : Nat), Vals xs its ∧ xs.length = its.length ∧ s.heap.get? l = some { cls := .type "list", data := .seq its.toArray n } := by
  obtain ⟨z, its, n, r, e⟩ := I.hok l _ hH
  exact ⟨z, its, n, r, r.length, e⟩

end

section
variable {X : Cx}

/-! ### methods -/
inductive I_rAppend (x : V) (vs : List V) (H : Hp) (Q : VK) : Prop where
  | mk (l : Addr) (xs : List V) (y : V) (h0_ : x = .ref l) (h1_ : vs = [y]) (h2_ : H l = some (.lst xs)) (h3_ : xs.length < sizeLine) (h4_ : Q .non (upd H l (.lst (xs ++ [y])))) : I_rAppend  x vs H Q
noncomputable def rAppend : V → List V → Hp → VK → Prop := fun x vs H Q => I_rAppend  x vs H Q
theorem mt_append : MtM X "list.append" rAppend := by
  intro pins s σ H x vs v us Q I rx rv h
  obtain ⟨l, xs, y, rfl, rfl, hH, hz, q⟩ := h
  cases rx
  obtain ⟨u, rfl, ru⟩ := rv.one
  obtain ⟨z, its, n, r, hl, e⟩ := I.lstM hH
  refine call_meets F.slot_list_append ⟨_, e, rfl⟩ F.entry_list_append (F.args_list_append_2 _ _) (PySem.list_append l its.toArray n u (by rw [List.size_toArray]; (first | lia | omega))) ⟨e, ?_⟩
  refine ⟨.non, _, I.lset (its' := its ++ [u]) hH e (by simp) (r.append (.cons ru .nil)) ?_, rfl, q⟩
  rw [List.length_append, List.length_singleton]
  (first | lia | omega)

/-! ### list + list, list += list, list * int -/
inductive I_rCat (x y : V) (H : Hp) (Q : VK) : Prop where
  | mk (l b : Addr) (xs zs : List V) (h0_ : x = .ref l) (h1_ : y = .ref b) (h2_ : H l = some (.lst xs)) (h3_ : H b = some (.lst zs)) (h4_ : xs.length + zs.length ≤ sizeLine) (h5_ : ∀ p, H p = none → Q (.ref p) (upd H p (.lst (xs ++ zs)))) : I_rCat  x y H Q
noncomputable def rCat : R2 := fun x y H Q => I_rCat  x y H Q
theorem op_cat : OpR X (binaryOp .Add) rCat := by
  intro pins s σ H x y v u Q I rx ry h
  obtain ⟨l, b, xs, zs, rfl, rfl, hH, hB, hz, q⟩ := h
  cases rx
  cases ry
  obtain ⟨z, its, n, r, hl, e⟩ := I.lstM hH
  obtain ⟨z2, its2, n2, r2, hl2, e2⟩ := I.lstM hB
  refine PySem.P.add_list e e2 ?_ (by rw [List.size_toArray, List.size_toArray]; (first | lia | omega))
  have ea : its.toArray ++ its2.toArray = (its ++ its2).toArray := by simp
  rw [ea]
  exact ⟨.ref _, _, I.lnew (t' := s.toks) (r.append r2) (by rw [List.length_append]; (first | lia | omega)), rfl, q _ I.fresh⟩
/-! ### del xs[i] -/
end

/-! ### xs[a:b] = ys -/

end L2

namespace Att
open PySem PySem.W PySem.Calls PyProof.Rows

/-! ### the script -/
theorem ints_of_wellAll {P : Params} {h : Heap} : ∀ (ns : List Int) (vs : List Value), WellAll P h vs (ns.map WData.int) → IntsAre vs ns := by
  intro ns
  induction ns with
  | nil =>
    intro vs w
    rw [List.map_nil] at w
    cases w
    exact .nil
  | cons n ns ih =>
    intro vs w
    rw [List.map_cons] at w
    cases w with
    | cons a b =>
      cases a
      exact .cons _ _ (ih _ b)

theorem script_of {l : OpenLaw} {n : Nat} (hn : l.most = some n) {P : Params} {h : Heap} {args : List WData} {vals : List Value}
    (hpre : l.row.toRowW.claim.pre args = true) (hwl : WellAll P h vals args) :
    ∃ a vs ns, vals = [Value.ref a] ∧ args = [WData.list (ns.map WData.int)] ∧ h.get? a = some { cls := .type "list", data := .seq vs.toArray } ∧ IntsAre vs ns ∧ ns.length ≤ n := by
  have hsh : WShape.hasAll [] args [.list .int] = true := (pre_splitW hpre).1
  have hc : l.pre.holds [] { args := args } = true := (pre_splitW hpre).2
  obtain ⟨d, r, rfl, h1, h2⟩ := hasAllW_cons hsh
  obtain rfl := hasAllW_nil h2
  obtain ⟨xs, rfl, h3⟩ := hasW_list h1
  obtain ⟨ns, rfl⟩ := items_int h3
  have hlen : ns.length ≤ n := by
    unfold OpenLaw.pre at hc
    have h4 : (WTm.not (.lt (.lit (.int (n : Int))) (.len (.arg 0)))).holds [] { args := [.list (ns.map .int)] } = true := by
      have h4 := (holds_andW hc).1
      rw [hn] at h4
      exact h4
    have h5 := condW_of h4 (w_not (w_lt w_lit (w_len_list (w_arg rfl))))
    rw [List.length_map] at h5
    refine Nat.le_of_not_lt fun q => ?_
    have q' : (n : Int) < ((ns.length : Nat) : Int) := by (first | lia | omega)
    first
      | (rw [decide_eq_true q'] at h5; exact absurd h5 (by decide))
      | (simp at h5; (first | lia | omega))
  cases hwl with
  | cons w1 w2 =>
    cases w2
    cases w1 with
    | list ho hall => exact ⟨_, _, ns, rfl, rfl, ho, ints_of_wellAll ns _ hall, hlen⟩

theorem post_true (l : OpenLaw) (args : List WData) : l.row.toRowW.claim.post args (.bool true) args = true :=
  postW_of (r := l.row.toRowW) (X := (true == true))
    (show WShape.has [] (.bool true) .bool = true by first | rfl | decide | simp [WShape.has, WShape.arms, WShape.armsAll])
    (show (WTm.eq .res (.lit (.bool true))).value [] { args := args, res := some (.bool true), after := args } = some (.bool (true == true)) from w_eq_bool (w_res rfl) w_lit) rfl

/-! ### the attachment: holds_open's last premise (the goal 'hc' behind k_head) from a wpAny of the law's body -/
/-- the same from a codeAny of the CALL (for a layer whose function contracts speak of calls) -/
theorem attach_call {l : OpenLaw} {n : Nat} {q : Program} {loose : List Str} {XP : (Str → Option Value) → Heap → Prop} {YP : World → Heap → Prop} {d : DefRec}
    (hn : l.most = some n) (hdf : d.params.defaults = [])
    (call : ∀ (w : World) (s₀ s₁ : Shared) (mg mb : Str → Option Value) (fa : Addr) (o : Obj) (pm cd doc : Value) (a : Addr) (vs : List Value) (ns : List Int),
      Ground q loose [] XP w s₀ mg mb s₁.heap → YP w s₁.heap →
      s₁.heap.get? fa = some o → o.data = .func (docDef d.name d.params d.body d.scope pm cd doc) → s₁.heap.CodeRec cd d.name → mg d.name = some (.ref fa) →
      s₁.heap.get? a = some { cls := .type "list", data := .seq vs.toArray } → IntsAre vs ns → ns.length ≤ n → s₁.gens = #[] →
      codeAny (model l.prog w) callerA (.call (.ref fa) ⟨[.ref a], []⟩) (fun r s' => r = .ok (.ret (.bool true)) ∧ OldK s₁.heap s'.heap ∧ s'.os = s₁.os ∧ AllBare s'.gens) s₁) :
    WalkO q loose XP YP l.row.toRowW d [] (fun f vs => PySem.call f vs) := by
  intro w s₀ s₁ mg mb G Y fa o pm cd doc dV kV ho hd hcd hD hmg hg args vals as hpre hlay hrd hwl hlo
  obtain rfl : dV = .none := Dflts.none hD hdf
  obtain rfl : kV = .none := Dflts.noKw hD
  obtain ⟨a, vs, ns, rfl, rfl, hobj, hints, hlen⟩ := script_of hn hpre hwl
  refine enter_call (codeAny_mono (call w s₀ s₁ mg mb fa o pm cd doc a vs ns G Y ho (fd_plain hd) hcd hmg hobj hints hlen hg) fun r s' hq => ?_)
  obtain ⟨rfl, h2, h3, h4⟩ := hq
  exact ⟨.inl ⟨.bool true, .bool true, [], rfl, fun _ => rfl, .bool true, post_true l _, fun _ => ⟨List.Pairwise.nil, fun _ hm => (nomatch hm)⟩⟩, h2, h3, h4⟩

/-! ### rules over ANY heap (no ledger) from facts about the written part K: the library's own take a ledger (News) for what they write -/
end Att

namespace L2
open PySem PySem.Spec PyProof.Rows

theorem vals_ints : ∀ {vs : List Value} {ns : List Int}, IntsAre vs ns → Vals (ns.map V.int) vs
  | _, _, .nil => .nil
  | _, _, .cons n t h => .cons ⟨t, rfl⟩ (vals_ints h)

/-- nothing is tracked but the script, known to the object (or it is an object of the module) -/
noncomputable def Only (H : Hp) : Prop := ∀ b, H b = none ∨ ∃ o xs, H b = some (.frz o (.lst xs))

/-- THE HEAD: the law's promise, at the heap behind the top. F, the promise of the law's def, may use that base is part of the heap (so K.In base, base.Ns mainGlobals mg stand in Mod) -/
theorem law_call {P : Program} {w : World} {K : PySem.W.Frag} {mg mb : Str → Option Value} {CX : CXT} {k : Nat} {fa a : Addr} {fd : FuncData} {x : Str} {sp : Sp} {s₁ : Shared} {vs : List Value} {ns : List Int}
    (KX : K.In s₁.heap) (hns : s₁.heap.Ns mainGlobals mg) (hb : s₁.heap.Ns builtinsNs mb) (hbb : ∀ x : Str, x ≠ "__name__" → mb x = bootBuiltins x) (hlim : s₁.heap.NoLimit) (hSe : s₁.heap.NoSeer) (hg : s₁.gens = #[])
    (ha : s₁.heap.get? a = some { cls := .type "list", data := .seq vs.toArray }) (hi : IntsAre vs ns) (hl : ns.length ≤ sizeLine) (hr : Room k callerA)
    (F : ∀ base : Heap, K.In base → base.Ns mainGlobals mg → base.NoSeer → FnOk P w K mg base CX k fa fd [x] sp) (hbind : ∀ (s : Shared) (u : Value), BindsTo s fd ⟨[u], []⟩ [(x, u)])
    (hsp : ∀ H : Hp, Only H → SqL K H a (ns.map V.int) → sp [.ref a] H (fun v _ => v = .bl true) fun _ _ _ => False)
    (hCX : ∀ H e s', CX [] H s₁ (fun _ _ _ => False) e s' → False) :
    codeAny (model P w) callerA (.call (.ref fa) ⟨[.ref a], []⟩) (fun r s' => r = .ok (.ret (.bool true)) ∧ OldK s₁.heap s'.heap ∧ s'.os = s₁.os ∧ AllBare s'.gens) s₁ := by
  have rv := vals_ints hi
  have lenV := hi.length
  -- from an abstract heap in which nothing but the script may be tracked
  have core : ∀ H : Hp, Only H → SqL K H a (ns.map V.int) → HOk P w H s₁.heap → (∀ b, H b ≠ none → b = a) → (H a ≠ none → K.lookup a = none) →
      codeAny (model P w) callerA (.call (.ref fa) ⟨[.ref a], []⟩) (fun r s' => r = .ok (.ret (.bool true)) ∧ OldK s₁.heap s'.heap ∧ s'.os = s₁.os ∧ AllBare s'.gens) s₁ := by
    intro H hO hS hok hA hK
    have base_of : ∀ {b : Addr} {o : Obj}, s₁.heap.get? b = some o → H b = none → (hidT s₁.heap H).get? b = some o := fun e n => hidT_get e n
    have noA : ∀ {b : Addr} {o : Obj} {es : Array DictEntry} {ep : Nat}, s₁.heap.get? b = some o → o.data = .dict es ep → H b = none := fun {b o es ep} e d => by
      cases q : H b with
      | none => rfl
      | some u =>
        have e' : b = a := hA b (by rw [q]; simp)
        subst e'
        rw [ha] at e; cases e
        have d' : Data.seq vs.toArray _ = Data.dict es ep := d
        cases d'
    have nsK : ∀ {b : Addr} {m : Str → Option Value}, s₁.heap.Ns b m → (hidT s₁.heap H).Ns b m := fun {b m} ⟨o, es, ep, e, d, r⟩ => ⟨o, es, ep, base_of e (noA e d), d, r⟩
    have hKb : K.In (hidT s₁.heap H) := fun b o e => base_of (KX b o e) (by
      cases q : H b with
      | none => rfl
      | some u =>
        have e' : b = a := hA b (by rw [q]; simp)
        subst e'
        rw [hK (by rw [q]; simp)] at e; cases e)
    have hM : Mod K mg (hidT s₁.heap H) := ⟨hKb, nsK hns, ⟨mb, nsK hb, hbb⟩, let ⟨mc, h1, h2⟩ := hlim; ⟨mc, nsK h1, h2⟩⟩
    have e0 : Env0 P w K mg (hidT s₁.heap H) callerA [] s₁ H := ⟨rfl, hM, fun b o e => of_hidT e, Nat.le_of_eq (hidT_size _ _), trivial, fun b hb => absurd (show b ∈ ([] : List Addr) from hb) (by simp), hok, .of_eq hg⟩
    have hSb : (hidT s₁.heap H).NoSeer := ⟨(let ⟨mc, h1, h2⟩ := hSe.statics; ⟨mc, nsK h1, h2⟩), (let ⟨mc, h1, h2⟩ := hSe.mods; ⟨mc, nsK h1, h2⟩), (let ⟨mc, h1, h2⟩ := hSe.imp; ⟨mc, nsK h1, h2⟩), by
      obtain ⟨m', bm, ob, h1, h2, h3, h4, h5⟩ := hSe.main
      refine ⟨m', bm, ob, nsK h1, h2, base_of h3 ?_, h4, h5⟩
      cases q : H bm with
      | none => rfl
      | some u =>
        have e' : bm = a := hA bm (by rw [q]; simp)
        subst e'
        rw [ha] at h3; cases h3
        exact absurd h4 (by simp)⟩
    refine codeAny_mono ((F _ hKb (nsK hns) hSb).run callerA [] s₁ H ⟨[.ref a], []⟩ [.ref a] [.ref a] _ _ hr e0 (hbind s₁ (.ref a)) (.cons rfl .nil) (hsp H hO hS)) fun r s' h => ?_
    cases r with
    | error e => exact (hCX H e s' h).elim
    | ok fl =>
      cases fl with
      | next => exact False.elim h
      | brk => exact False.elim h
      | cont => exact False.elim h
      | ret u =>
        obtain ⟨v, H', os, bare, un, hok', r', q⟩ := h
        have q' : v = .bl true := q
        subst q'
        obtain rfl : u = Value.bool true := r'
        refine ⟨rfl, OldK.of_keep fun b o e => ?_, os, bare⟩
        cases q : H b with
        | none => exact un.keep b o e q (by intro z; exact absurd (show b ∈ ([] : List Addr) from z) (by simp)) (by simp)
        | some u =>
          rcases hO b with z | ⟨ob, xs, z⟩
          · rw [q] at z; cases z
          · have z2 := un.frzs b ob _ z
            obtain ⟨e1, _⟩ := hok b _ z
            obtain ⟨e2, _⟩ := hok' b _ z2
            rw [e] at e1; cases e1
            exact e2
  cases hk : K.lookup a with
  | some o =>
    -- the script is one of the module's own objects
    have e := KX a o hk
    rw [ha] at e
    cases e
    refine core (fun _ => none) (fun _ => .inl rfl) (.inr ⟨_, vs.toArray, _, hk, rfl, rfl, rfl, by rw [List.size_toArray, lenV]; exact hl, by simpa using rv⟩) (fun b u z => by have z' : (none : Option HO) = some u := z; cases z') (fun b z => absurd rfl z) fun z => absurd rfl z
  | none =>
    refine core (fun b => if b = a then some (.frz { cls := .type "list", data := .seq vs.toArray } (.lst (ns.map V.int))) else none) (fun b => ?_) (.inl (.inr ⟨{ cls := .type "list", data := .seq vs.toArray }, if_pos rfl⟩)) (fun b u z => ?_) (fun b z => ?_) fun _ => hk
    · by_cases hb : b = a
      · exact .inr ⟨_, _, if_pos hb⟩
      · exact .inl (if_neg hb)
    · by_cases hb : b = a
      · have z' := (if_pos hb).symm.trans z
        cases z'
        subst hb
        exact ⟨ha, by rw [List.length_map]; exact hl, vs, _, rv, ha⟩
      · have z' := (if_neg hb).symm.trans z
        cases z'
    · by_cases hb : b = a
      · exact hb
      · exact absurd (if_neg hb) z
end L2

namespace L2
open PySem PySem.Spec PyProof.Rows

noncomputable abbrev KOf {K : PySem.W.Frag} {h : Heap} (_ : K.In h) : PySem.W.Frag := K

/-- the goal that k_head leaves (case hc), from the law's promise. F gives the function object fd (K's own) once, then the promise over every base -/
theorem walk_of {l : PySem.W.OpenLaw} {n k : Nat} {q : Program} {loose : List Str} {XP : (Str → Option Value) → Heap → Prop} {YP : World → Heap → Prop} {d : DefRec} {K : Params → PySem.W.Frag} {CX : World → CXT} {sp : World → Sp} {x : Str}
    (hn : l.most = some n) (hn2 : n ≤ sizeLine) (hdf : d.params.defaults = []) (hr : Room k callerA) (hi : PyProof.Rows.importsNone q = true)
    (hY : ∀ (w : World) (h : Heap), YP w h → (K w.params).In h)
    (F : ∀ (w : World) (mg : Str → Option Value) (fa : Addr) (h : Heap), (K w.params).In h → h.Ns mainGlobals mg → mg d.name = some (.ref fa) →
      ∃ fd : FuncData, (∀ (s : Shared) (u : Value), BindsTo s fd ⟨[u], []⟩ [(x, u)]) ∧
        ∀ base : Heap, (K w.params).In base → base.Ns mainGlobals mg → base.NoSeer → FnOk l.prog w (K w.params) mg base (CX w) k fa fd [x] (sp w))
    (hsp : ∀ (w : World) (H : Hp) (a : Addr) (ns : List Int), ns.length ≤ n → Only H → SqL (K w.params) H a (ns.map V.int) → sp w [.ref a] H (fun v _ => v = .bl true) fun _ _ _ => False)
    (hCX : ∀ (w : World) (H : Hp) (s : Shared) (e : Value) (s' : Shared), CX w [] H s (fun _ _ _ => False) e s' → False) :
    PySem.W.WalkO q loose XP YP l.row.toRowW d [] (fun f vs => PySem.call f vs) := by
  refine Att.attach_call hn hdf fun w s₀ s₁ mg mb fa o pm cd doc a vs ns G Y ho hd hcd hmg hobj hints hlen hg => ?_
  have KX := hY w _ Y
  obtain ⟨fd, hb, hF⟩ := F w mg fa _ KX G.T.g hmg
  exact law_call KX G.T.g G.T.b G.T.builtins G.T.nolimit (G.T.seer hi) hg hobj hints (Nat.le_trans hlen hn2) hr hF hb (fun H hO hS => hsp w H a ns hlen hO hS) fun H e s' => hCX w H s₁ e s'
end L2


/-! SHORT WORDS over the layer: a def of the text, its body, what a loop and a test want. -/
namespace L2
open PySem PySem.Spec PyProof.Rows

/-! ### the text by places -/
noncomputable def defArgs (s : Stmt) : Arguments := match s with
  | .FunctionDef _ a _ _ _ _ _ _ _ _ => a
  | _ => { posonlyargs := [], args := [], vararg := none, kwonlyargs := [], kw_defaults := [], kwarg := none, defaults := [] }
noncomputable def defBody (s : Stmt) : List Stmt := match s with
  | .FunctionDef _ _ b _ _ _ _ _ _ _ => b
  | _ => []
noncomputable def defScope (s : Stmt) : Scope := match s with
  | .FunctionDef _ _ _ _ _ _ sc _ _ _ => sc
  | _ => { kind := .function, names := [], isGenerator := false, isCoroutine := false }

/-! ### no exception leaves a def -/
noncomputable abbrev CX0 : CXT := fun _ _ _ _ _ _ => False
noncomputable abbrev E0 : XK := fun _ _ _ => False
theorem pass0 {X : Cx} : Passes CX0 X E0 := fun _ _ _ _ _ _ _ h => h.elim

/-! ### a def (or method) of the text as it stands behind the top -/
structure Fun (K : PySem.W.Frag) (x qual : Str) (st : Stmt) (f : Addr) (fd : FuncData) : Prop where
  ex : ∃ (oc : Value) (od : Option Addr) (kV doc pm : Value) (an : Option Addr) (cdv ct : Value) (osl : Array (Option Value)),
    fd = PySem.W.fnOf x qual (defArgs st) (defBody st) (defScope st) .none kV doc pm an cdv ct ∧ K.lookup f = some ⟨oc, od, .func fd, osl⟩ ∧ PySem.W.codeIn K cdv qual = true
  kp : PySem.W.keepIn K (.ref f) = true
section
variable {P : Program} {w : World} {K : PySem.W.Frag} {mg : Str → Option Value} {base : Heap}
/-- THE RULE for a def: its body as a term of rules, and the reading of that term -/
theorem Fun.ok {x qual : Str} {st : Stmt} {f : Addr} {fd : FuncData} {N ps : List Str} {k : Nat} {sp : Sp} (F : Fun K x qual st f fd) (S : FnScope N ps (defScope st)) (len : ∀ vs H Q E, sp vs H Q E → vs.length = ps.length)
    (hbody : ∀ (cdv : Value) (A : Around) (outer : List Env) (s : Shared) (H : Hp) (vs : List V) (Q : VK) (E : XK), Room k (A.deeper (envOfC qual (defScope st) s.heap.objs.size f cdv)) → sp vs H Q E →
      ∃ t, PSs (cxOf CX0 P w K mg base N qual (defScope st) f cdv A outer s H E).nox (defBody st) t ∧ t { nx := fun _ H' => Q .non H', rt := Q } (start N vs) H) : FnOk P w K mg base CX0 (k + 1) f fd ps sp := by
  obtain ⟨oc, od, kV, doc, pm, an, cdv, ct, osl, rfl, lk, hcd⟩ := F.ex
  refine fn_of lk hcd S len fun A outer s H vs Q E hr hsp => ?_
  obtain ⟨t, h, q⟩ := hbody cdv A outer s H vs Q E hr hsp
  exact ⟨t, h.nox, q⟩
/-- how its arguments bind (no defaults): h is «fun _ _ _ _ _ _ us hl => match us, hl with | [_, _], _ => rfl», one _ a parameter -/
theorem Fun.binds {x qual : Str} {st : Stmt} {f : Addr} {fd : FuncData} {ps : List Str} (F : Fun K x qual st f fd)
    (h : ∀ (kV doc pm : Value) (an : Option Addr) (cdv ct : Value) (us : List Value), us.length = ps.length → bindArgs (PySem.W.fnOf x qual (defArgs st) (defBody st) (defScope st) .none kV doc pm an cdv ct) ⟨us, []⟩ = pure (ps.zip us)) : Binds K fd ps [] := by
  obtain ⟨oc, od, kV, doc, pm, an, cdv, ct, osl, rfl, lk, hcd⟩ := F.ex
  exact .all (h kV doc pm an cdv ct)
theorem fun_mk {x qual : Str} {st : Stmt} {f : Addr} {oc : Value} {od an : Option Addr} {osl : Array (Option Value)} {kV doc pm cdv ct : Value} (l : K.lookup f = some ⟨oc, od, .func (PySem.W.fnOf x qual (defArgs st) (defBody st) (defScope st) .none kV doc pm an cdv ct), osl⟩)
    (c : PySem.W.codeIn K cdv qual = true) (k : PySem.W.keepIn K (.ref f) = true) : Fun K x qual st f (PySem.W.fnOf x qual (defArgs st) (defBody st) (defScope st) .none kV doc pm an cdv ct) := ⟨⟨oc, od, kV, doc, pm, an, cdv, ct, osl, rfl, l, c⟩, k⟩
end
/-! ### expressions in short: the name that stands in the i-th slot -/
section
variable {X : Cx}
theorem pv (i : Nat) {x : Str} {pos : Pos} (hN : X.N[i]? = some x := by rfl) (hv : Vis X.env.scope x := by first | exact Or.inl rfl | exact Or.inr (Or.inl rfl) | exact Or.inr (Or.inr rfl)) (hd : (x == ("__debug__" : Str)) = false := by decide)
    (hcd : (x == ("__classdict__" : Str)) = false := by decide) : PE X (.Name x pos) (tVar i) := pe_var hN hv hd hcd
end

/-! ### tests -/
theorem iteF {A B : Prop} (h : B) : if false = true then A else B := by
  rw [if_neg Bool.false_ne_true]
  exact h
theorem iteT {A B : Prop} (h : A) : if true = true then A else B := by
  rw [if_pos rfl]
  exact h
theorem ite2 {c A B : Prop} [Decidable c] (h1 : c → A) (h2 : ¬ c → B) : if c then A else B := by
  by_cases h : c
  · rw [if_pos h]
    exact h1 h
  · rw [if_neg h]
    exact h2 h
/-! ### heaps -/
/-- all that was tracked is as it was -/
noncomputable def Same (H H' : Hp) : Prop := ∀ b o, H b = some o → H' b = some o
theorem Same.refl (H : Hp) : Same H H := fun _ _ h => h
theorem Same.trans {H H1 H2 : Hp} (a : Same H H1) (b : Same H1 H2) : Same H H2 := fun c o h => b c o (a c o h)
end L2

namespace Nm
/-- prime, by trial -/
noncomputable def primeB (n : Nat) : Bool := decide (1 < n) && (List.range n).all fun d => decide (d < 2) || decide (n % d ≠ 0)
/-- a prime below 99 -/
structure PrS (k : Int) : Prop where
  lo : 1 < k
  hi : k < 99
  pr : primeB k.toNat = true
noncomputable def KindS (k : Int) : Prop := k = 0 ∨ PrS k
theorem prime_end_nat' : ∀ n < 99, ∀ b < 11, n < b * b → ((List.range b).all fun d => decide (d < 2) || decide (n % d ≠ 0)) = true → decide (1 < n) = primeB n := by decide +kernel
theorem prime_end_nat (n : Nat) (hn : n < 99) (b : Nat) (hb : b < 11) (h : n < b * b) (no : ∀ d < b, 2 ≤ d → n % d ≠ 0) : decide (1 < n) = primeB n := by
  refine prime_end_nat' n hn b hb h ?_
  rw [List.all_eq_true]
  intro d hd
  rw [List.mem_range] at hd
  by_cases z : d < 2
  · simp [z]
  · have := no d hd (by (first | lia | omega))
    simp [this]
theorem prime_stop_nat : ∀ n < 99, ∀ b < 11, 2 ≤ b → b * b ≤ n → n % b = 0 → primeB n = false := by decide +kernel
/-- the loop of is_prime: no divisor below by -/
structure PrInv (n b : Int) : Prop where
  lo : 2 ≤ b
  hi : b ≤ 10
  no : ∀ d : Nat, d < b.toNat → 2 ≤ d → n.toNat % d ≠ 0
theorem pr_start (n : Int) : PrInv n 2 := ⟨by (first | lia | omega), by (first | lia | omega), fun d h1 h2 => by (first | lia | omega)⟩
theorem toNat_mod {n b : Int} (hn : 0 ≤ n) (hb : 0 ≤ b) : (n % b).toNat = n.toNat % b.toNat := by
  obtain ⟨m, rfl⟩ := Int.eq_ofNat_of_zero_le hn
  obtain ⟨c, rfl⟩ := Int.eq_ofNat_of_zero_le hb
  rw [← Int.natCast_emod, Int.toNat_natCast, Int.toNat_natCast, Int.toNat_natCast]
theorem sq_toNat {b : Int} (hb : 0 ≤ b) : (b * b).toNat = b.toNat * b.toNat := by
  obtain ⟨m, rfl⟩ := Int.eq_ofNat_of_zero_le hb
  rw [← Int.natCast_mul, Int.toNat_natCast, Int.toNat_natCast]
theorem sq_mono {a b : Int} (ha : 0 ≤ a) (h : a ≤ b) : a * a ≤ b * b := Int.mul_le_mul h h ha (by (first | lia | omega))
theorem pr_turn {n b : Int} (h : PrInv n b) (hn : 0 ≤ n) (h99 : n < 99) (hs : b * b ≤ n) (hm : n % b ≠ 0) : PrInv n (b + 1) := by
  have h1 := h.lo
  have h2 := h.hi
  have hb : b ≤ 9 := by
    rcases Int.lt_or_le 9 b with h' | h'
    · have := sq_mono (by (first | lia | omega)) (show (10 : Int) ≤ b by (first | lia | omega)); (first | lia | omega)
    · exact h'
  refine ⟨by (first | lia | omega), by (first | lia | omega), fun d hd h2 => ?_⟩
  by_cases e : d = b.toNat
  · subst e
    intro z
    have := toNat_mod hn (show 0 ≤ b by (first | lia | omega))
    rw [z] at this
    have := Int.emod_nonneg n (show b ≠ 0 by (first | lia | omega))
    (first | lia | omega)
  · exact h.no d (by (first | lia | omega)) h2
theorem pr_stop {n b : Int} (h : PrInv n b) (hn : 0 ≤ n) (h99 : n < 99) (hs : b * b ≤ n) (hm : n % b = 0) : primeB n.toNat = false := by
  have h1 := h.lo
  have h2 := h.hi
  refine prime_stop_nat n.toNat (by (first | lia | omega)) b.toNat (by (first | lia | omega)) (by (first | lia | omega)) ?_ ?_
  · rw [← sq_toNat (by (first | lia | omega))]; (first | lia | omega)
  · rw [← toNat_mod hn (by (first | lia | omega)), hm]; rfl
theorem pr_end {n b : Int} (h : PrInv n b) (hn : 0 ≤ n) (h99 : n < 99) (hs : n < b * b) : decide (1 < n) = primeB n.toNat := by
  have h1 := h.lo
  have h2 := h.hi
  rw [← prime_end_nat n.toNat (by (first | lia | omega)) b.toNat (by (first | lia | omega)) (by rw [← sq_toNat (by (first | lia | omega))]; (first | lia | omega)) h.no]
  by_cases z : 1 < n
  · rw [decide_eq_true z, decide_eq_true (by (first | lia | omega))]
  · rw [decide_eq_false z, decide_eq_false (by (first | lia | omega))]
/-- Euclid -/
theorem gcd_fmod (a b : Int) : Int.gcd b (a.fmod b) = Int.gcd a b := by
  rw [Int.fmod_def, Int.gcd_sub_mul_left_right, Int.gcd_comm]
theorem fmod_small (a : Int) {b : Int} (hb : b ≠ 0) : (a.fmod b).natAbs < b.natAbs := by
  rcases Int.lt_or_le 0 b with h | h
  · have h1 := Int.fmod_nonneg_of_pos a h
    have h2 := Int.fmod_lt_of_pos a h
    (first | lia | omega)
  · have hb' : 0 < -b := by (first | lia | omega)
    have h1 := Int.fmod_nonneg_of_pos (-a) hb'
    have h2 := Int.fmod_lt_of_pos (-a) hb'
    have e : (-a).fmod (-b) = -(a.fmod b) := by
      rw [Int.neg_fmod_neg]
    (first | lia | omega)
end Nm

namespace Nm
/-- fraction(top, bottom): the sign belongs to the top alone -/
noncomputable def sg (t b : Int) : Int := if b < 0 then -((Int.gcd t b : Nat) : Int) else ((Int.gcd t b : Nat) : Int)
theorem sg_ne {t b : Int} (hb : b ≠ 0) : sg t b ≠ 0 := by
  have := Int.gcd_pos_of_ne_zero_right t hb
  unfold sg; split <;> (first | lia | omega)
theorem sg_abs (t b : Int) : (sg t b).natAbs = Int.gcd t b := by
  unfold sg; split <;> (first | lia | omega)
theorem sg_dvd_t (t b : Int) : sg t b ∣ t := by
  unfold sg; split
  · exact Int.neg_dvd.mpr (Int.gcd_dvd_left t b)
  · exact Int.gcd_dvd_left t b
theorem sg_dvd_b (t b : Int) : sg t b ∣ b := by
  unfold sg; split
  · exact Int.neg_dvd.mpr (Int.gcd_dvd_right t b)
  · exact Int.gcd_dvd_right t b
theorem rat_eq_of {q : Rat} {t b : Int} (hb : b ≠ 0) (h : q.num * b = t * q.den) : Rat.divInt t b = q := by
  rw [← Rat.num_divInt_den q]
  have hd : (q.den : Int) ≠ 0 := by have := q.den_nz; (first | lia | omega)
  rw [Rat.divInt_eq_divInt_iff hb hd]
  (first | lia | omega)
theorem frac_num {t b : Int} (hb : b ≠ 0) : t.fdiv (sg t b) = (Rat.divInt t b).num ∧ b.fdiv (sg t b) = ((Rat.divInt t b).den : Nat) := by
  have hs := sg_ne (t := t) hb
  rw [Int.fdiv_eq_ediv_of_dvd (sg_dvd_t t b), Int.fdiv_eq_ediv_of_dvd (sg_dvd_b t b)]
  have et := Int.ediv_mul_cancel (sg_dvd_t t b)
  have eb := Int.ediv_mul_cancel (sg_dvd_b t b)
  have hpos : 0 < b / sg t b := by
    have hne : b / sg t b ≠ 0 := fun z => by rw [z, Int.zero_mul] at eb; exact hb eb.symm
    have hg := Int.gcd_pos_of_ne_zero_right t hb
    rcases Int.lt_or_le b 0 with h | h
    · have e : sg t b = -((Int.gcd t b : Nat) : Int) := by unfold sg; rw [if_pos h]
      have : 0 ≤ b / sg t b := Int.ediv_nonneg_of_nonpos_of_nonpos (by (first | lia | omega)) (by (first | lia | omega))
      (first | lia | omega)
    · have e : sg t b = ((Int.gcd t b : Nat) : Int) := by unfold sg; rw [if_neg (by (first | lia | omega))]
      have : 0 ≤ b / sg t b := Int.ediv_nonneg (by (first | lia | omega)) (by (first | lia | omega))
      (first | lia | omega)
  have hcop : Int.gcd (t / sg t b) (b / sg t b) = 1 := by
    rw [Int.gcd_ediv (sg_dvd_t t b) (sg_dvd_b t b), sg_abs]
    exact Nat.div_self (Int.gcd_pos_of_ne_zero_right t hb)
  let q : Rat := ⟨t / sg t b, (b / sg t b).toNat, by (first | lia | omega), by
    show Nat.gcd (t / sg t b).natAbs (b / sg t b).toNat = 1
    have : (b / sg t b).toNat = (b / sg t b).natAbs := by (first | lia | omega)
    rw [this]; exact hcop⟩
  have hq : Rat.divInt t b = q := rat_eq_of hb (by
    show t / sg t b * b = t * (((b / sg t b).toNat : Nat) : Int)
    have e : (((b / sg t b).toNat : Nat) : Int) = b / sg t b := by (first | lia | omega)
    rw [e]
    have : t / sg t b * b = t / sg t b * (b / sg t b * sg t b) := by rw [eb]
    have : t * (b / sg t b) = t / sg t b * sg t b * (b / sg t b) := by rw [et]
    grind)
  rw [hq]
  refine ⟨rfl, ?_⟩
  show b / sg t b = (((b / sg t b).toNat : Nat) : Int)
  (first | lia | omega)
end Nm

namespace L2
open PySem PySem.Spec PyProof.Rows
/-! ### built-ins by their names -/
theorem bb_len : bootBuiltins "len" = some (.builtin "len") := by decide +kernel
theorem bb_abs : bootBuiltins "abs" = some (.builtin "abs") := by decide +kernel
theorem bb_isinstance : bootBuiltins "isinstance" = some (.builtin "isinstance") := by decide +kernel
theorem bb_int : bootBuiltins "int" = some (.type "int") := by decide +kernel
theorem bb_bool : bootBuiltins "bool" = some (.type "bool") := by decide +kernel
theorem bb_list : bootBuiltins "list" = some (.type "list") := by decide +kernel
theorem bb_tuple : bootBuiltins "tuple" = some (.type "tuple") := by decide +kernel
/-! ### sizes of ints -/
section
variable {X : Cx} {a b c : Expr} {ta tb tc : TE} {pos : Pos}
theorem op_mulB : OpR X (binaryOp .Mult) (rI IntMulOk fun i j => .int (i * j)) := opI fun _ _ _ _ _ _ _ hc q => mul_int q hc
/-! ### isinstance -/
noncomputable def rIsi (K : PySem.W.Frag) : List V → Hp → VK → Prop := fun xs H Q => ∃ x n t b, xs = [x, .ty n] ∧ TyOf K H x t ∧ PySem.W.kitOne K t (.type n) = some b ∧ Q (.bl b) H
theorem call_isi : CallR X (.builtin "isinstance") (rIsi X.K) := by
  intro pins s σ H xs us Q I r h
  obtain ⟨x, n, t, b, rfl, ty, e, q⟩ := h
  obtain ⟨u, w', rfl, r1, r2⟩ := Vals.two r
  cases r2
  exact isinst_ok I r1 ty e fun tk => ⟨.bl b, H, I.tok tk, rfl, q⟩
theorem pe_ty {x : Str} {n : String} (hg : Gl X x) (hm : X.mg x = none) (hv : bootBuiltins x = some (.type n)) (hn : x ≠ "__name__" := by decide) (hd : (x == ("__debug__" : Str)) = false := by decide) : PE X (.Name x pos) (tC (.ty n)) :=
  pe_bltn hg hm hv rfl hn hd
end

/-! ### defs by their promises -/
structure Kn (P : Program) (w : World) (K : PySem.W.Frag) (mg : Str → Option Value) (base : Heap) (x : Str) (k : Nat) (ps : List Str) (sp : Sp) : Prop where
  ex : ∃ (f : Addr) (fd : FuncData), FnOk P w K mg base CX0 k f fd ps sp ∧ mg x = some (.ref f) ∧ PySem.W.keepIn K (.ref f) = true ∧ Binds K fd ps []
theorem pe_kn {X : Cx} {x : Str} {k : Nat} {ps : List Str} {sp : Sp} {p pos : Pos} {e : Expr} {es : List Expr} {t : TA} (D : Kn X.prog X.w X.K X.mg X.base x k ps sp) (hr : Room k X.A) (hg : Gl X x) (ha : PA X (e :: es) t)
    (hdb : (x == ("__debug__" : Str)) = false := by decide) (he : starEach (e :: es) X.env = (false, eval e X.env) :: starEach es X.env := by rfl) (hpl : (backTo pos (starEach es X.env)).any (·.1) = false := by rfl) :
    PE X (.Call (.Name x p) (e :: es) [] pos) (tCall sp [] E0 t) := by
  obtain ⟨f, fd, F, hm, hk, hb⟩ := D.ex
  exact pe_call F hr hg hm hk hb .nil pass0 ha hdb he hpl
structure Df (K : PySem.W.Frag) (mg : Str → Option Value) (x : Str) (ps : List Str) (st : Stmt) : Prop where
  ex : ∃ (f : Addr) (fd : FuncData), Fun K x x st f fd ∧ mg x = some (.ref f) ∧ Binds K fd ps []
section
variable {P : Program} {w : World} {K : PySem.W.Frag} {mg : Str → Option Value} {base : Heap}
theorem Df.kn {x : Str} {st : Stmt} {N ps : List Str} {k : Nat} {sp : Sp} (D : Df K mg x ps st) (S : FnScope N ps (defScope st)) (len : ∀ vs H Q E, sp vs H Q E → vs.length = ps.length)
    (hbody : ∀ (f : Addr) (cdv : Value) (A : Around) (outer : List Env) (s : Shared) (H : Hp) (vs : List V) (Q : VK) (E : XK), Room k (A.deeper (envOfC x (defScope st) s.heap.objs.size f cdv)) → sp vs H Q E →
      ∃ t, PSs (cxOf CX0 P w K mg base N x (defScope st) f cdv A outer s H E).nox (defBody st) t ∧ t { nx := fun _ H' => Q .non H', rt := Q } (start N vs) H) : Kn P w K mg base x (k + 1) ps sp := by
  obtain ⟨f, fd, F, hm, hb⟩ := D.ex
  exact ⟨f, fd, F.ok S len (fun cdv A outer s H vs Q E hr h => hbody f cdv A outer s H vs Q E hr h), hm, F.kp, hb⟩
theorem df_mk {x : Str} {ps : List Str} {st : Stmt} {h : Heap} {f : Addr} {oc : Value} {od an : Option Addr} {osl : Array (Option Value)} {kV doc pm cdv ct : Value} (X : K.In h) (G : h.Ns mainGlobals mg)
    (a : PySem.W.nsIn K mainGlobals x = some (some (.ref f)))
    (l : K.lookup f = some ⟨oc, od, .func (PySem.W.fnOf x x (defArgs st) (defBody st) (defScope st) .none kV doc pm an cdv ct), osl⟩)
    (c : PySem.W.codeIn K cdv x = true) (k : PySem.W.keepIn K (.ref f) = true)
    (hb : ∀ (kV doc pm : Value) (an : Option Addr) (cdv ct : Value) (us : List Value), us.length = ps.length → bindArgs (PySem.W.fnOf x x (defArgs st) (defBody st) (defScope st) .none kV doc pm an cdv ct) ⟨us, []⟩ = pure (ps.zip us)) : Df K mg x ps st := by
  have F := fun_mk (st := st) l c k
  exact ⟨f, _, F, PySem.W.mg_of X G a, F.binds hb⟩
end
theorem bind1 {fd : FuncData} {ps : List Str} (h : ∀ a0, bindArgs fd ⟨[a0], []⟩ = pure (ps.zip [a0])) (us : List Value) (e : us.length = 1) : bindArgs fd ⟨us, []⟩ = pure (ps.zip us) := by
  match us, e with | [a0], _ => exact h a0
theorem bind2 {fd : FuncData} {ps : List Str} (h : ∀ a0 a1, bindArgs fd ⟨[a0, a1], []⟩ = pure (ps.zip [a0, a1])) (us : List Value) (e : us.length = 2) : bindArgs fd ⟨us, []⟩ = pure (ps.zip us) := by
  match us, e with | [a0, a1], _ => exact h a0 a1
theorem bind3 {fd : FuncData} {ps : List Str} (h : ∀ a0 a1 a2, bindArgs fd ⟨[a0, a1, a2], []⟩ = pure (ps.zip [a0, a1, a2])) (us : List Value) (e : us.length = 3) : bindArgs fd ⟨us, []⟩ = pure (ps.zip us) := by
  match us, e with | [a0, a1, a2], _ => exact h a0 a1 a2
/-- what law(script) promises: for a list of at most 63 ints the answer is True -/
noncomputable def spLaw (K : PySem.W.Frag) : Sp := fun vs H Q _ => ∃ (a : Addr) (ns : List Int), vs = [.ref a] ∧ SqL K H a (ns.map V.int) ∧ ns.length ≤ 63 ∧ ∀ H', Q (.bl true) H'
theorem same_new {H : Hp} {p : Addr} (h : H p = none) (o : HO) : Same H (upd H p o) := fun b u q => by rw [upd_ne (ne_of_none q h)]; exact q
theorem law_mk {K : PySem.W.Frag} {mg : Str → Option Value} {st : Stmt} {h : Heap} {f fa : Addr} {oc : Value} {od an : Option Addr} {osl : Array (Option Value)} {kV doc pm cdv ct : Value} (X : K.In h) (G : h.Ns mainGlobals mg) (hmg : mg "law" = some (.ref fa))
    (a : PySem.W.nsIn K mainGlobals "law" = some (some (.ref f)))
    (l : K.lookup f = some ⟨oc, od, .func (PySem.W.fnOf "law" "law" (defArgs st) (defBody st) (defScope st) .none kV doc pm an cdv ct), osl⟩)
    (c : PySem.W.codeIn K cdv "law" = true) (k : PySem.W.keepIn K (.ref f) = true)
    (hb : ∀ (kV doc pm : Value) (an : Option Addr) (cdv ct : Value) (v : Value), bindArgs (PySem.W.fnOf "law" "law" (defArgs st) (defBody st) (defScope st) .none kV doc pm an cdv ct) ⟨[v], []⟩ = pure [(("_law_script" : Str), v)]) :
    ∃ fd : FuncData, Fun K "law" "law" st fa fd ∧ ∀ (s : Shared) (v : Value), BindsTo s fd ⟨[v], []⟩ [("_law_script", v)] := by
  have e := hmg.symm.trans (PySem.W.mg_of X G a)
  cases e
  exact ⟨_, fun_mk (st := st) l c k, fun s v => .of_eq (hb _ _ _ _ _ _ v)⟩
theorem walk {l : PySem.W.OpenLaw} {q : Program} {loose : List Str} {XP : (Str → Option Value) → Heap → Prop} {YP : World → Heap → Prop} {d : DefRec} {K : Params → PySem.W.Frag} (k : Nat) (hn : l.most = some 63) (hdf : d.params.defaults = []) (hr : Room k callerA) (hi : PyProof.Rows.importsNone q = true)
    (hY : ∀ (w : World) (h : Heap), YP w h → (K w.params).In h)
    (F : ∀ (w : World) (mg : Str → Option Value) (fa : Addr) (h : Heap), (K w.params).In h → h.Ns mainGlobals mg → mg d.name = some (.ref fa) →
      ∃ fd : FuncData, (∀ (s : Shared) (u : Value), BindsTo s fd ⟨[u], []⟩ [("_law_script", u)]) ∧ ∀ base : Heap, (K w.params).In base → base.Ns mainGlobals mg → base.NoSeer → FnOk l.prog w (K w.params) mg base CX0 k fa fd ["_law_script"] (spLaw (K w.params))) :
    PySem.W.WalkO q loose XP YP l.row.toRowW d [] (fun f vs => PySem.call f vs) :=
  L2.walk_of (n := 63) (k := k) (x := "_law_script") (CX := fun _ => CX0) (sp := fun w => spLaw (K w.params)) hn (by decide) hdf hr hi hY F (fun _ _ a ns hl _ hS => ⟨a, ns, rfl, hS, hl, fun _ => rfl⟩) fun _ _ _ _ _ z => z
end L2

namespace L2
open PySem PySem.Spec PyProof.Rows
/-! ### list comprehensions: one for, none or one test -/
noncomputable def closOf (cells : List (Str × Addr)) : List (Str × NameKind) → List (Str × Addr) → List (Str × Addr)
  | [], acc => acc
  | (n, k) :: r, acc => if (k == NameKind.free) = true then closOf cells r ((n, (cells.lookup n).getD 0) :: acc) else closOf cells r acc
theorem closFor_go {env : Env} (f : Str × NameKind → List (Str × Addr) → Sem (ForInStep (List (Str × Addr))))
    (hf : ∀ name kind cs, f (name, kind) cs = if (kind == NameKind.free) = true then (do let a ← cellOf env name; pure (.yield ((name, a) :: cs))) else pure (.yield cs)) :
    ∀ (l : List (Str × NameKind)) (acc : List (Str × Addr)), (∀ x ∈ l, x.2 = .free → ∃ c, env.cells.lookup x.1 = some c) → (forIn l acc f : Sem _) = pure (closOf env.cells l acc)
  | [], acc, _ => by rw [List.forIn_nil]; rfl
  | (n, k) :: r, acc, h => by
    rw [List.forIn_cons, hf]
    have hr : ∀ x ∈ r, x.2 = .free → ∃ c, env.cells.lookup x.1 = some c := fun x hx => h x (List.mem_cons_of_mem _ hx)
    by_cases hk : (k == NameKind.free) = true
    · obtain ⟨c, hc⟩ := h (n, k) List.mem_cons_self (by simpa using hk)
      rw [if_pos hk]
      have e : cellOf env n = pure c := by unfold cellOf; rw [hc]
      rw [e]
      show (forIn r ((n, c) :: acc) f : Sem _) = _
      rw [closFor_go f hf r _ hr]
      conv => rhs; unfold closOf
      rw [if_pos hk, hc]
      rfl
    · rw [if_neg hk]
      show (forIn r acc f : Sem _) = _
      rw [closFor_go f hf r _ hr]
      conv => rhs; unfold closOf
      rw [if_neg hk]
theorem closureFor_eq {scope : Scope} {env : Env} (h : ∀ x ∈ scope.names, x.2 = .free → ∃ c, env.cells.lookup x.1 = some c) : closureFor scope env = pure (closOf env.cells scope.names []) := by
  simp only [closureFor]
  rw [closFor_go (env := env) _ (fun name kind cs => by cases hk : kind == NameKind.free <;> simp [hk]) scope.names [] h]
  rfl
theorem closOf_mem {cells : List (Str × Addr)} : ∀ {l : List (Str × NameKind)} {acc : List (Str × Addr)} {n : Str} {c : Addr}, (∀ x ∈ l, x.2 = .free → ∃ c, cells.lookup x.1 = some c) → (n, c) ∈ closOf cells l acc →
    (n, c) ∈ acc ∨ ((n, NameKind.free) ∈ l ∧ cells.lookup n = some c)
  | [], acc, n, c, _, h => .inl h
  | (m, k) :: r, acc, n, c, hl, h => by
    have hr : ∀ x ∈ r, x.2 = .free → ∃ c, cells.lookup x.1 = some c := fun x hx => hl x (List.mem_cons_of_mem _ hx)
    unfold closOf at h
    by_cases hk : (k == NameKind.free) = true
    · rw [if_pos hk] at h
      have hk' : k = .free := by simpa using hk
      subst hk'
      obtain ⟨c', hc'⟩ := hl (m, .free) List.mem_cons_self rfl
      rcases closOf_mem hr h with h | ⟨h1, h2⟩
      · rcases List.mem_cons.mp h with e | h
        · have hc2 : cells.lookup m = some c' := hc'
          rw [hc2] at e
          cases e
          exact .inr ⟨List.mem_cons_self, hc'⟩
        · exact .inl h
      · exact .inr ⟨List.mem_cons_of_mem _ h1, h2⟩
    · rw [if_neg hk] at h
      rcases closOf_mem hr h with h | ⟨h1, h2⟩
      · exact .inl h
      · exact .inr ⟨List.mem_cons_of_mem _ h1, h2⟩
theorem lookup_some_of_key {α : Type} : ∀ {l : List (Str × α)} {n : Str}, (∃ c, (n, c) ∈ l) → ∃ c, l.lookup n = some c
  | [], n, ⟨c, h⟩ => nomatch h
  | (m, v) :: r, n, ⟨c, h⟩ => by
    rw [List.lookup_cons]
    cases hb : n == m with
    | true => exact ⟨v, rfl⟩
    | false =>
      rcases List.mem_cons.mp h with e | h
      · cases e; simp at hb
      · exact lookup_some_of_key ⟨c, h⟩
theorem closOf_sub {cells : List (Str × Addr)} : ∀ {l : List (Str × NameKind)} {acc : List (Str × Addr)} {p : Str × Addr}, p ∈ acc → p ∈ closOf cells l acc
  | [], acc, p, h => h
  | (m, k) :: r, acc, p, h => by
    unfold closOf
    split
    · exact closOf_sub (List.mem_cons_of_mem _ h)
    · exact closOf_sub h
theorem closOf_key {cells : List (Str × Addr)} : ∀ {l : List (Str × NameKind)} {acc : List (Str × Addr)} {n : Str}, (n, NameKind.free) ∈ l → ∃ c, (n, c) ∈ closOf cells l acc
  | (m, k) :: r, acc, n, h => by
    unfold closOf
    rcases List.mem_cons.mp h with e | h
    · cases e
      exact ⟨_, closOf_sub List.mem_cons_self⟩
    · split
      · exact closOf_key h
      · exact closOf_key h
theorem cellsFrom_app : ∀ (l : List (Str × NameKind)) (n : Nat) (acc : List (Str × Addr)), cellsFrom n l acc = cellsFrom n l [] ++ acc
  | [], n, acc => rfl
  | (m, k) :: r, n, acc => by
    unfold cellsFrom
    split
    · rw [cellsFrom_app r (n + 1) ((m, n) :: acc), cellsFrom_app r (n + 1) [(m, n)], List.append_assoc]; rfl
    · exact cellsFrom_app r n acc
theorem cellsFrom_mem : ∀ {l : List (Str × NameKind)} {n : Nat} {x : Str} {c : Addr}, (x, c) ∈ cellsFrom n l [] → (x, NameKind.cell) ∈ l
  | (m, k) :: r, n, x, c, h => by
    unfold cellsFrom at h
    by_cases hk : (k == NameKind.cell) = true
    · rw [if_pos hk, cellsFrom_app] at h
      rcases List.mem_append.mp h with h | h
      · exact List.mem_cons_of_mem _ (cellsFrom_mem h)
      · have e : (x, c) = (m, n) := by simpa using h
        cases e
        have : k = .cell := by simpa using hk
        subst this
        exact List.mem_cons_self
    · rw [if_neg hk] at h
      exact List.mem_cons_of_mem _ (cellsFrom_mem h)
theorem cellsFrom_key : ∀ {l : List (Str × NameKind)} {n : Nat} {x : Str}, (x, NameKind.cell) ∈ l → ∃ c, (x, c) ∈ cellsFrom n l []
  | (m, k) :: r, n, x, h => by
    unfold cellsFrom
    rcases List.mem_cons.mp h with e | h
    · cases e
      rw [if_pos (by decide), cellsFrom_app]
      exact ⟨n, List.mem_append_right _ List.mem_cons_self⟩
    · split
      · rw [cellsFrom_app]
        obtain ⟨c, hc⟩ := cellsFrom_key (n := n + 1) h
        exact ⟨c, List.mem_append_left _ hc⟩
      · exact cellsFrom_key h

/-- the context of a comprehension's block -/
noncomputable def blk (X : Cx) (own fre : List Str) (scope : Scope) (L : Addr) (cells : List (Str × Addr)) (s₀ : Shared) (H₀ : Hp) (ex : List Addr) (pn : List (Addr × Obj)) : Cx where
  prog := X.prog
  w := X.w
  K := X.K
  mg := X.mg
  base := X.base
  A := X.A
  N := own ++ fre
  s₀ := s₀
  H₀ := H₀
  env := compEnvC scope cells L X.env
  outer := X.stack
  stack := X.stack
  ex := ex
  fn := fun x => own.contains x
  calm := X.calm
  pn := pn
  xe := fun _ _ => False
/-- the block's names at a turn's start -/
noncomputable def bst (own : Nat) (idx : List Nat) (σ : St) : St := List.replicate own none ++ idx.map fun i => (σ[i]?).join
structure BlkOk (X : Cx) (own fre : List Str) (idx : List Nat) (scope : Scope) : Prop where
  kind : scope.kind = .function
  free : (scope.names.all fun x => x.2 != .free || (X.env.kindOf x.1 == some .cell || X.env.kindOf x.1 == some .free)) = true
  loc : (scope.names.all fun x => x.2 != .local || scope.names.lookup x.1 == some .local) = true
  ownB : (scope.names.all fun x => x.2 != .free || !own.contains x.1) = true
  freB : ((fre.zip idx).all fun p => scope.names.lookup p.1 == some .free && X.N[p.2]? == some p.1) = true
  len : fre.length = idx.length
  nd : (scope.names.map (·.1)).Nodup
theorem key_one {l : List (Str × NameKind)} : (l.map (·.1)).Nodup → ∀ {x : Str} {k1 k2 : NameKind}, (x, k1) ∈ l → (x, k2) ∈ l → k1 = k2 := by
  induction l with
  | nil => intro _ x k1 k2 h; exact nomatch h
  | cons p r ih =>
    intro nd x k1 k2 h1 h2
    rw [List.map_cons, List.nodup_cons] at nd
    rcases List.mem_cons.mp h1 with e1 | h1 <;> rcases List.mem_cons.mp h2 with e2 | h2
    · rw [← e1] at e2; cases e2; rfl
    · exact absurd (List.mem_map.mpr ⟨_, h2, by rw [← e1]⟩) nd.1
    · exact absurd (List.mem_map.mpr ⟨_, h1, by rw [← e2]⟩) nd.1
    · exact ih nd.2 h1 h2
section
variable {X : Cx} {own fre : List Str} {idx : List Nat} {scope : Scope} {pins : List (Addr × Obj)} {σ : St} {H : Hp} {s : Shared}
theorem BlkOk.freeC (B : BlkOk X own fre idx scope) {x : Str × NameKind} (hx : x ∈ scope.names) (h : x.2 = .free) : X.env.kindOf x.1 = some .cell ∨ X.env.kindOf x.1 = some .free := by
  have := List.all_eq_true.mp B.free x hx
  rw [h] at this
  simpa using this
theorem BlkOk.cells (B : BlkOk X own fre idx scope) (ok : X.Ok) : ∀ x ∈ scope.names, x.2 = .free → ∃ c, X.env.cells.lookup x.1 = some c := fun x hx h => ok.has x.1 (B.freeC hx h)
noncomputable def rl (env : Env) (p : Str × NameKind) : Str × NameKind := if (p.2 == NameKind.free && env.scope.kind == .function && env.kindOf p.1 == some .cell) = true then (p.1, NameKind.cell) else p
theorem rl_fst (env : Env) (p : Str × NameKind) : (rl env p).1 = p.1 := by unfold rl; split <;> rfl
theorem rl_snd (env : Env) (p : Str × NameKind) : (rl env p).2 = p.2 ∨ ((rl env p).2 = .cell ∧ p.2 = .free) := by
  unfold rl
  split
  · rename_i hc
    rw [Bool.and_eq_true, Bool.and_eq_true] at hc
    exact .inr ⟨rfl, by simpa using hc.1.1⟩
  · exact .inl rfl
theorem lookup_pair {α : Type} (p : Str × α) (r : List (Str × α)) (x : Str) : (p :: r).lookup x = if (x == p.1) = true then some p.2 else r.lookup x := by
  rw [show p = (p.1, p.2) from rfl, List.lookup_cons]
  cases x == p.1 <;> rfl
theorem relabel_kind {env : Env} : ∀ {l : List (Str × NameKind)} {x : Str} {k : NameKind}, (l.map (rl env)).lookup x = some k → (l.lookup x = some k ∨ (k = .cell ∧ l.lookup x = some .free))
  | [], x, k, h => by simp at h
  | p :: r, x, k, h => by
    rw [List.map_cons, lookup_pair, rl_fst] at h
    rw [lookup_pair]
    by_cases hx : (x == p.1) = true
    · rw [if_pos hx] at h ⊢
      rcases rl_snd env p with e | ⟨e1, e2⟩
      · rw [e] at h; exact .inl h
      · rw [e1] at h; cases h
        rw [e2]
        exact .inr ⟨rfl, rfl⟩
    · rw [if_neg hx] at h ⊢
      exact relabel_kind h
theorem relabel_free {env : Env} : ∀ {l : List (Str × NameKind)} {x : Str}, l.lookup x = some .free → (l.map (rl env)).lookup x = some .cell ∨ (l.map (rl env)).lookup x = some .free
  | [], x, h => by simp at h
  | p :: r, x, h => by
    rw [lookup_pair] at h
    rw [List.map_cons, lookup_pair, rl_fst]
    by_cases hx : (x == p.1) = true
    · rw [if_pos hx] at h ⊢
      rcases rl_snd env p with e | ⟨e1, e2⟩
      · rw [e]; exact .inr h
      · rw [e1]; exact .inl rfl
    · rw [if_neg hx] at h ⊢
      exact relabel_free h
/-- the cells of the block -/
theorem blk_cell (B : BlkOk X own fre idx scope) (ok : X.Ok) {n : Nat} {x : Str} {c : Addr} (h : (cellsFrom n scope.names (closOf X.env.cells scope.names [])).lookup x = some c) :
    ((x, c) ∈ cellsFrom n scope.names [] ∧ (x, NameKind.cell) ∈ scope.names) ∨ ((x, NameKind.free) ∈ scope.names ∧ X.env.cells.lookup x = some c) := by
  have h1 := mem_of_lookup h
  rw [cellsFrom_app] at h1
  rcases List.mem_append.mp h1 with h1 | h1
  · exact .inl ⟨h1, cellsFrom_mem h1⟩
  · rcases closOf_mem (B.cells ok) h1 with h1 | h1
    · exact nomatch h1
    · exact .inr h1
end

section
variable {prog : Program} {w : World} {A : Around} {E : Value → Shared → Prop} {R : Result → Shared → Prop} {s : Shared}
/-- the block's loop: nothing is raised -/
theorem compLoop_any {elt target iter : Expr} {ifs : List Expr} {scope : Scope} {pos : Pos} {it acc : Value} {env : Env} (I : Nat → Shared → Prop)
    (turn : ∀ n s, I n s → wpAny (model prog w) A (pyNext it) (fun r s₁ => match r with
      | none => R (.ok .next) s₁
      | some v => wpAny (model prog w) A (letOwnedTupleGo target it v) (fun _ s₂ => wpAny (model prog w) A (assign target env v) (fun _ s₃ =>
          wpAny (model prog w) A (forIn ifs true fun c r => if r = true then do let ok ← isTrue c env (eval c env); pure (ForInStep.yield ok) else pure (ForInStep.yield r)) (fun ok s₄ =>
            if ok = true then wpAny (model prog w) A (eval elt env) (fun x s₅ =>
              wpAny (model prog w) A (call (.builtin "list.append") [acc, x]) (fun _ s₆ => ∃ m, m < n ∧ I m s₆) (fun _ _ => False) s₅) (fun _ _ => False) s₄
            else ∃ m, m < n ∧ I m s₄) (fun _ _ => False) s₃) (fun _ _ => False) s₂) (fun _ _ => False) s₁) (fun _ _ => False) s)
    (n : Nat) (h : I n s) :
    codeAny (model prog w) A (.compLoop (.ListComp elt [⟨target, iter, ifs, 0⟩] scope pos) 0 it acc env) R s := by
  refine codeAny_loop rfl I (fun n s hI => ?_) n h
  show wpAny _ A ((compTurn (.ListComp elt [⟨target, iter, ifs, 0⟩] scope pos) 0 it acc env).onRaise (fun x => do noteFrame x env; theTreesLotGoes x)) _ _ s
  refine wpAny_noted ?_
  rw [compTurn_list]
  refine wpAny_bind (wpAny_standAt (wpAny_bind (wpAny_mono (turn n s hI) (fun r s₁ h₁ => ?_) fun _ _ h' => h'.elim)))
  cases r with
  | none => exact wpAny_pure h₁
  | some v =>
    refine wpAny_bind (wpAny_mono h₁ (fun _ s₂ h₂ => ?_) fun _ _ h' => h'.elim)
    refine wpAny_bind (wpAny_mono h₂ (fun _ s₃ h₃ => wpAny_bind (wpAny_mono h₃ (fun ok s₄ h₄ => ?_) fun _ _ h' => h'.elim)) fun _ _ h' => h'.elim)
    cases ok with
    | false => exact wpAny_pure ⟨rfl, h₄⟩
    | true =>
      exact wpAny_bind (wpAny_bind (wpAny_mono h₄ (fun x s₅ h₅ => wpAny_bind (wpAny_mono h₅ (fun _ s₆ h₆ => wpAny_pure (wpAny_pure ⟨rfl, h₆⟩)) fun _ _ h' => h'.elim)) fun _ _ h' => h'.elim))
end

section
variable {X : Cx} {own fre : List Str} {idx : List Nat} {scope : Scope} {pins : List (Addr × Obj)} {σ : St} {H : Hp} {s : Shared}
noncomputable abbrev bcells (X : Cx) (scope : Scope) (L : Addr) : List (Str × Addr) := cellsFrom (L + 1) scope.names (closOf X.env.cells scope.names [])
noncomputable abbrev dictO : Obj := { cls := .type "dict", data := .dict #[] }
theorem bst_get {own : Nat} {idx : List Nat} {σ : St} {i : Nat} {v : V} (h : (bst own idx σ)[i]? = some (some v)) : ∃ j k, i = own + j ∧ idx[j]? = some k ∧ σ[k]? = some (some v) := by
  unfold bst at h
  by_cases hi : i < own
  · rw [List.getElem?_append_left (by simpa using hi)] at h
    rw [List.getElem?_replicate] at h
    rw [if_pos hi] at h
    cases h
  · rw [List.getElem?_append_right (by simpa using Nat.le_of_not_lt hi)] at h
    rw [List.length_replicate, List.getElem?_map] at h
    cases e : idx[i - own]? with
    | none => rw [e] at h; cases h
    | some k =>
      rw [e] at h
      refine ⟨i - own, k, by (first | lia | omega), e, ?_⟩
      have h' : some ((σ[k]?).join) = some (some v) := h
      have h2 := Option.some.inj h'
      cases e2 : σ[k]? with
      | none => rw [e2] at h2; cases h2
      | some o => rw [e2] at h2; rw [show o = some v from h2]
/-- the block begins: its frame and cells are laid behind s -/
theorem blk_start (B : BlkOk X own fre idx scope) (I : Inv X pins σ H s) {ex : List Addr} (hex : ∀ b ∈ ex, FpOk X pins H b ∧ b < s.heap.objs.size) :
    Inv (blk X own fre scope s.heap.objs.size (bcells X scope s.heap.objs.size) s H ex (X.pn ++ pins)) [] (bst own.length idx σ) H { s with heap := pushCells (s.heap.push dictO) scope.names } := by
  have ok := I.ok
  have hsz : (s.heap.push dictO).objs.size = s.heap.objs.size + 1 := Heap.size_push ..
  have keep : ∀ b o, s.heap.get? b = some o → (pushCells (s.heap.push dictO) scope.names).get? b = some o := fun b o e => pushCells_keeps _ _ b o (Heap.get?_push_of_some _ e)
  have cok := cellsFrom_ok scope.names (s.heap.push dictO) (s.heap.objs.size + 1) [] ⟨fun _ _ hm => (nomatch hm), List.Pairwise.nil⟩ (by rw [hsz]; exact Nat.le_refl _)
  rw [hsz] at cok
  have freeLt : ∀ x c, X.env.cells.lookup x = some c → c < s.heap.objs.size := fun x c e => let ⟨_, h⟩ := I.cell x c e; h.lt
  have cellC : ∀ x c, (bcells X scope s.heap.objs.size).lookup x = some c → (s.heap.objs.size + 1 ≤ c ∧ (pushCells (s.heap.push dictO) scope.names).IsCell c none ∧ (x, c) ∈ cellsFrom (s.heap.objs.size + 1) scope.names [] ∧ (x, NameKind.cell) ∈ scope.names) ∨ (X.env.cells.lookup x = some c ∧ c < s.heap.objs.size ∧ (x, NameKind.free) ∈ scope.names) := fun x c e => by
    rcases blk_cell B ok e with ⟨h1, h2⟩ | ⟨h1, h2⟩
    · exact .inl ⟨(cok.empty x c h1).2, (cok.empty x c h1).1, h1, h2⟩
    · exact .inr ⟨h2, freeLt x c h2, h1⟩
  have hfs : ∀ b ∈ frs X.stack, b < s.heap.objs.size := fun b hb => by
    rcases List.mem_cons.mp (I.stkSub b hb) with e | hb
    · rw [e]; exact I.lt
    · obtain ⟨_, o, ho, _⟩ := I.ok.funs.mem hb
      exact Nat.lt_of_lt_of_le (Heap.lt_size ho) I.sz
  have OK : (blk X own fre scope s.heap.objs.size (bcells X scope s.heap.objs.size) s H ex (X.pn ++ pins)).Ok := by
    refine ⟨ok.mod, B.kind, ok.glob, ok.blt, Nat.le_refl _, ?_, ?_, ?_, ok.hd, ok.frames, .inl rfl, ?_, fun b o e => I.bs b o e, Nat.le_trans ok.bsz I.sz, ?_, ?_, I.stack, I.stkFree⟩
    · intro x y c e1 e2
      rcases cellC x c e1 with ⟨l1, _, m1, _⟩ | ⟨f1, l1, _⟩ <;> rcases cellC y c e2 with ⟨l2, _, m2, _⟩ | ⟨f2, l2, _⟩
      · exact name_of_addr cok.apart m1 m2
      · exact absurd (Nat.lt_of_lt_of_le l2 (Nat.le_of_succ_le l1)) (Nat.lt_irrefl _)
      · exact absurd (Nat.lt_of_lt_of_le l1 (Nat.le_of_succ_le l2)) (Nat.lt_irrefl _)
      · exact ok.inj x y c f1 f2
    · intro x hk
      have hk' : (relabel scope X.env).names.lookup x = some .cell ∨ (relabel scope X.env).names.lookup x = some .free := hk
      have hor : (x, NameKind.cell) ∈ scope.names ∨ (x, NameKind.free) ∈ scope.names := by
        rcases hk' with h | h
        · rcases relabel_kind h with h | ⟨_, h⟩
          · exact .inl (mem_of_lookup h)
          · exact .inr (mem_of_lookup h)
        · rcases relabel_kind h with h | ⟨h, _⟩
          · exact .inr (mem_of_lookup h)
          · cases h
      refine lookup_some_of_key ?_
      show ∃ c, (x, c) ∈ cellsFrom (s.heap.objs.size + 1) scope.names (closOf X.env.cells scope.names [])
      rw [cellsFrom_app]
      rcases hor with h | h
      · obtain ⟨c, hc⟩ := cellsFrom_key (n := s.heap.objs.size + 1) h
        exact ⟨c, List.mem_append_left _ hc⟩
      · obtain ⟨c, hc⟩ := closOf_key (cells := X.env.cells) (acc := []) h
        exact ⟨c, List.mem_append_right _ hc⟩
    · intro x c hf e
      rcases cellC x c e with ⟨l1, _⟩ | ⟨_, _, m1⟩
      · show s.heap.objs.size ≤ c
        (first | lia | omega)
      · have := List.all_eq_true.mp B.ownB _ m1
        have hf' : own.contains x = true := hf
        rw [hf'] at this
        simp at this
    · intro b hb
      obtain ⟨⟨_, _, _, _, f4, _⟩, hlt⟩ := hex b hb
      refine ⟨Nat.ne_of_lt hlt, fun x c e => ?_⟩
      rcases cellC x c e with ⟨l1, _⟩ | ⟨f1, _, _⟩
      · exact Ne.symm (Nat.ne_of_lt (Nat.lt_of_lt_of_le hlt (Nat.le_of_succ_le l1)))
      · exact f4 x c f1
    · intro b o e hb
      obtain ⟨⟨_, _, _, f3, _, _⟩, _⟩ := hex b hb
      rcases f3 with f3 | f3
      · exact ok.noex b o e f3
      · exact absurd (Heap.lt_size (ok.bs b o e).1) (Nat.not_lt.mpr f3)
    · intro b hb hm
      obtain ⟨⟨_, f1, f2, _⟩, _⟩ := hex b hb
      rcases List.mem_cons.mp (I.stkSub b hm) with e | hm
      · exact f1 e
      · exact f2 hm
  refine ⟨OK, rfl, I.bare, Un.kept keep, ?_, ?_, I.fresh, ?_, ?_, I.hok.kept keep, ?_⟩
  · refine ⟨fun _ => none, (Heap.Ns.new s.heap (.type "dict")).keeps (pushCells_keeps _ _), fun i x v e1 e2 e3 => ?_⟩
    obtain ⟨j, k, rfl, hj, hk⟩ := bst_get e2
    have e1' : (own ++ fre)[own.length + j]? = some x := e1
    rw [List.getElem?_append_right (Nat.le_add_right _ _), Nat.add_sub_cancel_left] at e1'
    have hz : (x, k) ∈ fre.zip idx := by
      refine List.mem_iff_getElem?.mpr ⟨j, ?_⟩
      rw [List.getElem?_zip_eq_some]
      exact ⟨e1', hj⟩
    have hq := List.all_eq_true.mp B.freB _ hz
    rw [Bool.and_eq_true] at hq
    have q1 : scope.names.lookup x = some .free := by simpa using hq.1
    have q2 : X.N[k]? = some x := by simpa using hq.2
    have kin := B.freeC (mem_of_lookup q1) rfl
    have vis : Vis X.env.scope x := .inr kin
    obtain ⟨m, hn, hl⟩ := I.loc
    obtain ⟨u, r, look⟩ := hl k x v q2 hk vis
    refine ⟨u, r, ?_⟩
    obtain ⟨c, hc, hcell⟩ : ∃ c, X.env.cells.lookup x = some c ∧ s.heap.IsCell c (some u) := by
      rcases look with ⟨hk1, _⟩ | ⟨_, c, e, z⟩
      · rcases kin with h | h <;> (rw [hk1] at h; cases h)
      · exact ⟨c, e, z⟩
    refine .inr ⟨relabel_free q1, c, ?_, hcell.keeps keep⟩
    have hl2 : ∃ c', (bcells X scope s.heap.objs.size).lookup x = some c' := by
      refine lookup_some_of_key ?_
      show ∃ c, (x, c) ∈ cellsFrom (s.heap.objs.size + 1) scope.names (closOf X.env.cells scope.names [])
      rw [cellsFrom_app]
      obtain ⟨c, hc⟩ := closOf_key (cells := X.env.cells) (acc := []) (mem_of_lookup q1)
      exact ⟨c, List.mem_append_right _ hc⟩
    obtain ⟨c', hc'⟩ := hl2
    rcases blk_cell B ok hc' with ⟨_, h2⟩ | ⟨_, h2⟩
    · exact nomatch key_one B.nd h2 (mem_of_lookup q1)
    · rw [hc] at h2
      cases h2
      exact hc'
  · intro x c e
    rcases cellC x c e with ⟨_, h, _⟩ | ⟨h, _, _⟩
    · exact ⟨none, h⟩
    · obtain ⟨v, z⟩ := I.cell x c h
      exact ⟨v, z.keeps keep⟩
  · intro x c e
    rcases cellC x c e with ⟨l, _⟩ | ⟨h, _, _⟩
    · exact I.hok.fresh (by (first | lia | omega))
    · exact I.freeC x c h
  · intro p hp
    rw [List.append_nil] at hp
    obtain ⟨h1, h2, h3, h4, h5⟩ := I.pin p hp
    refine ⟨keep _ _ h1, h2, Nat.ne_of_lt (Heap.lt_size h1), fun hm => ?_, h5⟩
    rcases List.mem_cons.mp (I.stkSub p.1 hm) with e | hm
    · exact h3 e
    · exact h4 hm
  · show (bst own.length idx σ).length = (own ++ fre).length
    unfold bst
    rw [List.length_append, List.length_replicate, List.length_map, List.length_append, B.len]

/-- behind the block: the list is the body's own -/
theorem blk_end {L D : Addr} {cells : List (Str × Addr)} {s₀ s' : Shared} {H₀ H' : Hp} {fp : List Addr} {pl : List (Addr × Obj)} {σb : St} {ys : List V} {its : List Value} {n : Nat} (I : Inv X pins σ H₀ s₀) (I' : Inv (blk X own fre scope L cells s₀ H₀ (D :: fp) (X.pn ++ pins)) pl σb H' s')
    (hfp : ∀ b ∈ fp, FpOk X pins H₀ b) (hD : FpOk X pins H₀ D) (hD' : H' D = none) (hv : Vals ys its) (hz : ys.length ≤ sizeLine) (e : s'.heap.get? D = some { cls := .type "list", data := .seq its.toArray n }) :
    Inv X pins σ (upd H' D (.lst ys)) s' := by
  have u := I'.base
  have nD : H₀ D = none := hD.1
  refine I.call' (ch := D :: fp) (H' := upd H' D (.lst ys)) I'.os ⟨u.keep, u.slot, fun b o h1 h2 h3 => ?_, u.there, fun b xs h => ?_, fun b o v h => ?_, fun b ps h => ?_⟩ (fun b o h => ?_) I'.bare fun b hb => ?_
  · rw [upd_ne (fun z => h3 (by rw [z]; exact List.mem_cons_self))]
    exact u.free b o h1 h2 h3
  · rw [upd_ne (ne_of_none h nD)]; exact u.tups b xs h
  · rw [upd_ne (ne_of_none h nD)]; exact u.frzs b o v h
  · rw [upd_ne (ne_of_none h nD)]; exact u.tbls b ps h
  · by_cases hb : b = D
    · subst hb
      rw [upd_same] at h
      cases h
      exact ⟨hz, its, n, hv, e⟩
    · rw [upd_ne hb] at h
      exact (I'.hok b o h).stay (fun c v _ q => q) (fun c q => by rw [upd_ne (ne_of_none q hD')]; exact q) fun c xs q => by rw [upd_ne (ne_of_none q hD')]; exact q
  · rcases List.mem_cons.mp hb with rfl | hb
    · obtain ⟨_, f1, _, f3, f4, f5⟩ := hD
      exact ⟨f3, f1, f4, f5⟩
    · obtain ⟨_, f1, _, f3, f4, f5⟩ := hfp b hb
      exact ⟨f3, f1, f4, f5⟩

/-- a target that stores into the first k names alone -/
noncomputable def GOwn (k : Nat) (g : TG) : Prop := ∀ v σ H Q, g v σ H Q → g v σ H fun σ' H' => Q σ' H' ∧ σ'.drop k = σ.drop k ∧ σ'.length = σ.length
theorem gown_name {k i : Nat} (h : i < k) : GOwn k (gName i) := fun v σ H Q q => ⟨q, by rw [List.drop_set_of_lt h], List.length_set⟩
theorem bst_back {own : Nat} {idx : List Nat} {σ σ' : St} (hd : σ'.drop own = (bst own idx σ).drop own) (i : Nat) (v : V) (h : (bst own idx σ)[i]? = some (some v)) : σ'[i]? = some (some v) := by
  obtain ⟨j, k, rfl, _, _⟩ := bst_get h
  rw [← List.getElem?_drop, hd, List.getElem?_drop]
  exact h
/-- a comprehension: W the invariant by the turn, a measure, what was gathered, the heap -/
noncomputable def tCompW (own : Nat) (idx : List Nat) (wi : TI) (g : TG) (tt : TT) (te : TE) (R : List V → Hp → Prop) : St → Hp → Prop := fun σ H => wi σ H fun J H1 => ∃ W : Nat → Nat → List V → Hp → Prop, (∃ m, W 0 m [] H1) ∧ ∀ i m ys H, W i m ys H →
  (J.stop i H ∧ ys.length ≤ sizeLine ∧ R ys H) ∨
  (J.go i H ∧ ys.length < sizeLine ∧ ∀ x H', J.yld i H x H' → g x (bst own idx σ) H' fun σ2 H2 => tt σ2 H2 fun b H3 => if b = true then te σ2 H3 fun y H4 => ∃ m', m' < m ∧ W (i + 1) m' (ys ++ [y]) H4 else ∃ m', m' < m ∧ W (i + 1) m' ys H3)
/-- every test of the comprehension -/
noncomputable def PTs (Y : Cx) (ifs : List Expr) (t : TT) : Prop := ∀ (pins : List (Addr × Obj)) (s : Shared) (σ : St) (H : Hp) (Q : Bool → Hp → Prop), Inv Y pins σ H s → t σ H Q →
  wpAny (model Y.prog Y.w) Y.A (forIn ifs true fun c r => if r = true then do let ok ← isTrue c Y.env (eval c Y.env); pure (ForInStep.yield ok) else pure (ForInStep.yield r)) (TP Y pins σ Q) Y.xe s
noncomputable def tTrue : TT := fun _ H Q => Q true H
theorem pts_nil {Y : Cx} : PTs Y [] tTrue := fun pins s σ H Q I h => wpAny_tests_nil ⟨H, I, h⟩
theorem comp_run {elt tg iter : Expr} {ifs : List Expr} {pos : Pos} {wi : TI} {g : TG} {tt : TT} {te : TE} {use : Option (Value → Sem Unit)} {R : List V → Hp → Prop} {Q : Value → Shared → Prop} (B : BlkOk X own fre idx scope) (hc : X.calm = true) (hi : PI X tg iter wi) (hg : GOwn own.length g)
    (hb : ∀ (L : Addr) (cells : List (Str × Addr)) (s₀ : Shared) (H₀ : Hp) (ex : List Addr) (pn : List (Addr × Obj)), PG (blk X own fre scope L cells s₀ H₀ ex pn) tg g ∧ PTs (blk X own fre scope L cells s₀ H₀ ex pn) ifs tt ∧ PE (blk X own fre scope L cells s₀ H₀ ex pn) elt te)
    (hs : ∀ x, foldedSetIterable iter X.env x = pure x) (I : Inv X pins σ H s) (h : tCompW own.length idx wi g tt te R σ H)
    (hq : ∀ (ys : List V) (H' : Hp) (s' : Shared) (L D : Addr) (m : Str → Option Value), R ys H' → H' D = none → Inv X pins σ (upd H' D (.lst ys)) s' → s'.heap.Ns L m → upd H' D (.lst ys) L = none → FpOk X pins (upd H' D (.lst ys)) L →
      compPost (model X.prog X.w) X.A X.xe use Q (.ref D) L (.ok .next) s') :
    wpAny (model X.prog X.w) X.A (comprehension (.ListComp elt [⟨tg, iter, ifs, 0⟩] scope pos) scope X.env (firstIterPos [⟨tg, iter, ifs, 0⟩] pos) (newList []) false (eval iter X.env) use) Q X.xe s := by
  have hnames : ∀ x ∈ scope.names, x.2 = .local → scope.names.lookup x.1 = some .local := fun x hx hl => by
    have := List.all_eq_true.mp B.loc x hx
    rw [hl] at this
    simpa using this
  refine wpAny_comprehension_free (use := use) rfl hs (closureFor_eq (B.cells I.ok)) B.kind hnames (wpAny_mono (hi pins s σ H _ I h) (fun v s1 h1 => wpAny_mono h1 (fun itv s2 h2 => ?_) fun _ _ e => e) fun _ _ e => e)
  obtain ⟨it, fp, tn, J, H2, rfl, I2, T, st2, f2, W, ⟨m0, w0⟩, turn⟩ := h2
  refine wpAny_newObj_type ?_
  generalize hs3 : ({ s2 with heap := s2.heap.push { cls := .type "list", dict := none, data := .seq ([] : List Value).toArray } } : Shared) = s3
  have hD3 : s3.heap.get? s2.heap.objs.size = some { cls := .type "list", data := .seq ([] : List Value).toArray 0 } := by rw [← hs3]; exact Heap.get?_push_size _ rfl
  have keep23 : ∀ b o, s2.heap.get? b = some o → s3.heap.get? b = some o := fun b o e => by rw [← hs3]; exact Heap.get?_push_of_some _ e
  have I3 : Inv X pins σ H2 s3 := by rw [← hs3]; exact I2.kept (t' := s2.toks) fun b o e => Heap.get?_push_of_some _ e
  have sz3 : s3.heap.objs.size = s2.heap.objs.size + 1 := by rw [← hs3]; exact Heap.size_push ..
  generalize hD : s2.heap.objs.size = D at *
  have nD : H2 D = none := by rw [← hD]; exact I2.fresh
  have okD : FpOk X pins H2 D := I2.fpOk (by rw [hD]; exact Nat.le_refl _) nD
  have ltfp : ∀ b ∈ fp, b < D := fun b hb => by
    obtain ⟨o, ho, _⟩ := T.obj _ _ st2 b hb
    rw [← hD]; exact Heap.lt_size ho
  -- the block's frame
  simp only [newFunctionEnv, Option.isSome_some, if_true]
  refine wpAny_bind (wpAny_alloc ?_)
  refine wpAny_bind (wpAny_layCells _ (fun name kind cells => by cases hkc : kind == NameKind.cell <;> simp [hkc]) _ _ _ _ ?_)
  refine wpAny_bind (wpAny_pure (wpAny_pure ?_))
  have hL1 : (s3.heap.push dictO).objs.size = s3.heap.objs.size + 1 := Heap.size_push ..
  have I4 := blk_start (ex := D :: fp) B I3 (fun b hb => by
    rcases List.mem_cons.mp hb with rfl | hb
    · exact ⟨okD, by rw [sz3]; exact Nat.lt_succ_self _⟩
    · exact ⟨f2 b hb, by rw [sz3]; exact Nat.lt_succ_of_lt (ltfp b hb)⟩)
  generalize hs4 : ({ s3 with heap := pushCells (s3.heap.push dictO) scope.names } : Shared) = s4 at I4
  have keep34 : ∀ b o, s3.heap.get? b = some o → s4.heap.get? b = some o := fun b o e => by rw [← hs4]; exact pushCells_keeps _ _ b o (Heap.get?_push_of_some _ e)
  generalize hY : blk X own fre scope s3.heap.objs.size (bcells X scope s3.heap.objs.size) s3 H2 (D :: fp) (X.pn ++ pins) = Y at I4
  have YA : Y.A = X.A := by rw [← hY]; rfl
  have Yp : Y.prog = X.prog := by rw [← hY]; rfl
  have Yw : Y.w = X.w := by rw [← hY]; rfl
  have YK : Y.K = X.K := by rw [← hY]; rfl
  have Yc : Y.calm = true := by rw [← hY]; exact hc
  have Yx : Y.xe = fun _ _ => False := by rw [← hY]; rfl
  have Yex : Y.ex = D :: fp := by rw [← hY]; rfl
  have Ypn : Y.pn = X.pn ++ pins := by rw [← hY]; rfl
  have YL : Y.env.locals = s3.heap.objs.size := by rw [← hY]; rfl
  have hbY : PG Y tg g ∧ PTs Y ifs tt ∧ PE Y elt te := by rw [← hY]; exact hb ..
  have nDY : D ≠ Y.env.locals := by rw [YL, sz3]; exact Nat.ne_of_lt (Nat.lt_succ_self _)
  have okY := I4.ok
  have fsD : D ∉ Y.fs := okY.exfs D (by rw [Yex]; exact List.mem_cons_self)
  have pnD : ∀ p ∈ Y.pn, p.1 ≠ D := by rw [Ypn]; exact okD.2.2.2.2.2
  have FO : ∀ {H' : Hp} {o : Obj}, (∀ b ∈ fp, H' b = none) → ∀ b ∈ fp, FpOk Y [(D, o)] H' b := fun {H' o} hn b hb => by
    have m : b ∈ Y.ex := by rw [Yex]; exact List.mem_cons_of_mem _ hb
    refine ⟨hn b hb, (okY.exf b m).1, okY.exfs b m, .inl m, (okY.exf b m).2, fun p hp => ?_⟩
    rcases List.mem_append.mp hp with hp | hp
    · rw [Ypn] at hp
      exact (f2 b hb).2.2.2.2.2 p hp
    · have e : p = (D, o) := by simpa using hp
      rw [e]
      exact Ne.symm (Nat.ne_of_lt (ltfp b hb))
  have pinD : ∀ {pl : List (Addr × Obj)} {σ' : St} {H' : Hp} {s' : Shared} {o : Obj}, Inv Y pl σ' H' s' → s'.heap.get? D = some o → H' D = none → (∀ v, o.data ≠ .cell v) → Inv Y [(D, o)] σ' H' s' := fun {pl σ' H' s' o} I' e hn hd => I'.pins_of fun p hp => by
    have e' : p = (D, o) := by simpa using hp
    subst e'
    exact ⟨e, hn, nDY, fsD, hd⟩
  have loop : codeAny (model X.prog X.w) X.A (.compLoop (.ListComp elt [⟨tg, iter, ifs, 0⟩] scope pos) 0 (.ref it) (.ref D) Y.env) (compPost (model X.prog X.w) X.A X.xe use Q (.ref D) s3.heap.objs.size) s4 := by
    refine compLoop_any (fun n s' => ∃ i ys its k H', Inv Y [(D, ({ cls := .type "list", data := .seq (its : List Value).toArray k } : Obj))] (bst own.length idx σ) H' s' ∧ tn i s'.heap ∧ (∀ b ∈ fp, H' b = none) ∧ Vals ys its ∧ ys.length ≤ sizeLine ∧ W i n ys H') ?_ m0
      ⟨0, [], [], 0, H2, pinD I4 (keep34 _ _ hD3) nD (fun v z => nomatch z), T.keep _ _ _ st2 fun b _ o e => keep34 _ _ (keep23 _ _ e), fun b hb => (f2 b hb).1, .nil, Nat.zero_le _, w0⟩
    rintro n s' ⟨i, ys, its, k, H', I', st', fr', hv, hz, w'⟩
    have pD := I'.pin _ (List.mem_append_right _ List.mem_cons_self)
    rcases turn i n ys H' w' with ⟨stop, hl, hR⟩ | ⟨go, hl, step⟩
    · have z := T.done Y Yp Yw YK Yc i _ s' _ H' (fun _ _ => False) I' (FO fr') st' stop
      rw [YA] at z
      refine thn z fun r s5 ⟨hr, I5⟩ => ?_
      subst hr
      have pD5 := I5.pin _ (List.mem_append_right _ List.mem_cons_self)
      have I5' := I5
      rw [← hY] at I5'
      have E := blk_end I3 I5' (fun b hb => f2 b hb) okD pD5.2.1 hv hl pD5.1
      obtain ⟨m5, hm5, _⟩ := I5.loc
      rw [YL] at hm5
      have nL : H' s3.heap.objs.size = none := by rw [← YL]; exact I5.free
      have nL' : upd H' D (.lst ys) s3.heap.objs.size = none := by rw [upd_ne (by rw [← YL]; exact Ne.symm nDY)]; exact nL
      exact hq ys H' s5 _ D m5 hR pD5.2.1 E hm5 nL' (I3.fpOk (Nat.le_refl _) nL')
    · have z := T.item Y Yp Yw YK Yc i _ s' _ H' (fun _ _ => False) I' (FO fr') st' go
      rw [YA] at z
      refine thn z fun r s5 ⟨u, hr, h5⟩ => ?_
      subst hr
      refine thn h5 fun _ s6 ⟨x, H6, I6, r6, y6, st6, fr6⟩ => ?_
      have I6' := I6.pinned (FO fr6) (T.obj _ _ st6)
      have z7 := hbY.1 _ s6 _ H6 x u _ I6' r6 (hg _ _ _ _ (step x H6 y6))
      rw [Yp, Yw, YA, Yx] at z7
      refine thn z7 fun _ s7 ⟨σ7, H7, I7, q7, d7, l7⟩ => ?_
      have z8 := hbY.2.1 _ s7 σ7 H7 _ I7 q7
      rw [Yp, Yw, YA, Yx] at z8
      refine thn z8 fun ok s8 ⟨H8, I8, q8⟩ => ?_
      have tnK : ∀ {σ9 : St} {H9 : Hp} {s9 : Shared}, Inv Y ([(D, ({ cls := .type "list", data := .seq its.toArray k } : Obj))] ++ pinsAt fp s6.heap) σ9 H9 s9 → tn (i + 1) s9.heap ∧ ∀ b ∈ fp, H9 b = none := fun I9 =>
        ⟨T.keep _ _ _ st6 fun b hb o e => (I9.pin (b, o) (List.mem_append_right _ (List.mem_append_right _ (mem_pinsAt hb e)))).1, fun b hb => by
          obtain ⟨o, e, d⟩ := T.obj _ _ st6 b hb
          exact (I9.pin (b, o) (List.mem_append_right _ (List.mem_append_right _ (mem_pinsAt hb e)))).2.1⟩
      cases ok with
      | false =>
        rw [if_neg Bool.false_ne_true] at q8 ⊢
        obtain ⟨m', hm, w8⟩ := q8
        obtain ⟨t8, n8⟩ := tnK I8
        exact ⟨m', hm, i + 1, ys, its, k, H8, I8.unpinned.weak l7.symm (bst_back d7), t8, n8, hv, hz, w8⟩
      | true =>
        rw [if_pos rfl] at q8 ⊢
        have z9 := hbY.2.2 _ s8 σ7 H8 _ I8 q8
        rw [Yp, Yw, YA, Yx] at z9
        refine thn z9 fun y s9 ⟨v9, H9, I9, r9, m', hm, w9⟩ => ?_
        obtain ⟨t9, n9⟩ := tnK I9
        have pD9 := I9.pin (D, { cls := .type "list", data := .seq its.toArray k }) (List.mem_append_right _ (List.mem_append_left _ List.mem_cons_self))
        refine append_at pD9.1 (fun h10 sb hD10 => ?_) (by rw [List.size_toArray, ← hv.length]; exact Nat.le_of_lt hl)
        have I9a : Inv Y [] σ7 H9 s9 := I9.pins_of fun p hp => nomatch hp
        have I10 : Inv Y [] σ7 H9 { s9 with heap := h10 } := I9a.turned (t' := s9.toks) (it := D) (fun b o hb e => sb.extBut b o hb e) pD9.2.1 nDY (.inl (by rw [Yex]; exact List.mem_cons_self)) (okY.exf D (by rw [Yex]; exact List.mem_cons_self)).2 (fun p hp => by
          rw [List.append_nil] at hp
          exact pnD p hp)
        refine ⟨m', hm, i + 1, ys ++ [v9], its ++ [y], k + 1, H9, pinD (I10.weak l7.symm (bst_back d7)) ?_ pD9.2.1 (fun v z => nomatch z), ?_, n9, hv.append (.cons r9 .nil), ?_, w9⟩
        · show h10.get? D = _
          rw [hD10, List.push_toArray]
        · exact T.keep _ _ _ t9 fun b hb o e => sb.extBut b o (Nat.ne_of_lt (ltfp b hb)) e
        · rw [List.length_append, List.length_singleton]; exact hl
  have goal : codeAny (model X.prog X.w) X.A (.compStart (.ListComp elt [⟨tg, iter, ifs, 0⟩] scope pos) 0 (.ref it) (.ref D) Y.env) (compPost (model X.prog X.w) X.A X.xe use Q (.ref D) s3.heap.objs.size) s4 :=
    codeAny_compStart_list loop (T.self X.A 0 s4 _ _ (T.keep _ _ _ st2 fun b _ o e => keep34 _ _ (keep23 _ _ e)) loop)
  rw [← hY] at goal
  have hsz : ({ s3 with heap := s3.heap.push { cls := .type "dict", data := .dict #[] } } : Shared).heap.objs.size = s3.heap.objs.size + 1 := Heap.size_push ..
  rw [hsz]
  first
    | exact goal
    | (rw [← hs4] at goal; exact goal)
end
/-- a list comprehension as a value -/
noncomputable def tComp (own : Nat) (idx : List Nat) (wi : TI) (g : TG) (tt : TT) (te : TE) : TE := fun σ H Q => tCompW own idx wi g tt te (fun ys H' => ∀ p, H' p = none → Q (.ref p) (upd H' p (.lst ys))) σ H
section
variable {X : Cx} {scope : Scope}
theorem pe_comp {elt tg iter : Expr} {ifs : List Expr} {pos : Pos} {wi : TI} {g : TG} {tt : TT} {te : TE} (own fre : List Str) (idx : List Nat) (B : BlkOk X own fre idx scope) (hc : X.calm = true) (hi : PI X tg iter wi) (hg : GOwn own.length g)
    (hb : ∀ (L : Addr) (cells : List (Str × Addr)) (s₀ : Shared) (H₀ : Hp) (ex : List Addr) (pn : List (Addr × Obj)), PG (blk X own fre scope L cells s₀ H₀ ex pn) tg g ∧ PTs (blk X own fre scope L cells s₀ H₀ ex pn) ifs tt ∧ PE (blk X own fre scope L cells s₀ H₀ ex pn) elt te)
    (hs : ∀ x, foldedSetIterable iter X.env x = pure x := by intro _; rfl) : PE X (.ListComp elt [⟨tg, iter, ifs, 0⟩] scope pos) (tComp own.length idx wi g tt te) := by
  intro pins s σ H Q I h
  rw [eval_ListComp]
  refine comp_run (use := none) B hc hi hg hb hs I h fun ys H' s' L D m hR hD I' hn nL fL => ?_
  refine ⟨m, hn, fun h' hs' => ?_⟩
  obtain ⟨f0, f1, f2, f3, f4, f5⟩ := fL
  exact ⟨.ref D, _, I'.turned (t' := s'.toks) (it := L) (fun b o hb e => hs'.extBut b o hb e) f0 f1 f3 f4 f5, rfl, hR D hD⟩
/-- name = a comprehension (the name local, no cell): stored ahead of the block's end -/
noncomputable def tAsgC (own : Nat) (idx : List Nat) (wi : TI) (g : TG) (tt : TT) (te : TE) (i : Nat) : TS := fun D σ H => tCompW own idx wi g tt te (fun ys H' => ∀ p, H' p = none → D.nx (σ.set i (some (.ref p))) (upd H' p (.lst ys))) σ H
theorem ps_setC {elt tg iter : Expr} {ifs : List Expr} {pos pos' spos : Pos} {wi : TI} {g : TG} {tt : TT} {te : TE} {i : Nat} {x : Str} (hN : X.N.Nodup) (hi' : X.N[i]? = some x) (hx : X.env.scope.names.lookup x = some .local) (own fre : List Str) (idx : List Nat) (B : BlkOk X own fre idx scope) (hc : X.calm = true) (hi : PI X tg iter wi) (hg : GOwn own.length g)
    (hb : ∀ (L : Addr) (cells : List (Str × Addr)) (s₀ : Shared) (H₀ : Hp) (ex : List Addr) (pn : List (Addr × Obj)), PG (blk X own fre scope L cells s₀ H₀ ex pn) tg g ∧ PTs (blk X own fre scope L cells s₀ H₀ ex pn) ifs tt ∧ PE (blk X own fre scope L cells s₀ H₀ ex pn) elt te)
    (hsw : swapsWith (.ListComp elt [⟨tg, iter, ifs, 0⟩] scope pos) (some (.Name x pos')) spos.line X.env = pure true := by rfl)
    (hs : ∀ x, foldedSetIterable iter X.env x = pure x := by intro _; rfl) : PS X (.Assign [.Name x pos'] (.ListComp elt [⟨tg, iter, ifs, 0⟩] scope pos) spos) (tAsgC own.length idx wi g tt te i) := by
  intro pins s σ H D I h
  rw [exec_Assign_Name_used _ _ _ _ hsw]
  refine wpAny_bind (wpAny_standAt (wpAny_bind ?_))
  show wpAny _ X.A (do let _ ← comprehension (.ListComp elt [⟨tg, iter, ifs, 0⟩] scope pos) scope X.env _ (newList []) false (eval iter X.env) (some (assign (.Name x pos') X.env))) _ _ s
  refine wpAny_bind (wpAny_mono (comp_run (use := some (assign (.Name x pos') X.env)) (Q := fun _ s' => SP X pins D .next s') B hc hi hg hb hs I h fun ys H' s' L Da m hR hD I' hn nL fL => ?_) (fun _ s' hq => wpAny_pure (wpAny_pure hq)) fun _ _ e => e)
  obtain ⟨f0, f1, f2, f3, f4, f5⟩ := fL
  show wpAny _ X.A (assign (.Name x pos') X.env (.ref Da)) _ _ _
  refine wpAny_assign_Name (store_ok2 I' hN hi' (.inl hx) (show RelV (.ref Da) (.ref Da) from rfl) (fun s2 I2 ⟨a, sb, ha⟩ => ?_) (.inr hx))
  have hLa : L ≠ a := by
    rcases ha with rfl | ha
    · exact f1
    · exact Ne.symm (f4 x a ha)
  refine ⟨m, hn.sameBut sb hLa, fun h' hs' => ?_⟩
  exact ⟨_, _, I2.turned (t' := s2.toks) (it := L) (fun b o hb e => hs'.extBut b o hb e) f0 f1 f3 f4 f5, hR Da hD⟩
end
end L2

namespace L2
open PySem PySem.Spec PyProof.Rows
/-! ### data in the abstract heap -/
mutual
noncomputable def Rp (H : Hp) : PyData → V → Prop
  | .none, v => v = .non
  | .bool b, v => v = .bl b
  | .int i, v => v = .int i
  | .str x, v => v = .str x
  | .list ds, v => ∃ a xs, v = .ref a ∧ H a = some (.lst xs) ∧ Rps H ds xs
  | .tuple ds, v => ∃ a xs, v = .ref a ∧ H a = some (.tup xs) ∧ Rps H ds xs
  | .dict _, _ => False
noncomputable def Rps (H : Hp) : List PyData → List V → Prop
  | [], xs => xs = []
  | d :: ds, xs => ∃ x r, xs = x :: r ∧ Rp H d x ∧ Rps H ds r
end
mutual
theorem Rp.mono {H H' : Hp} (g : Same H H') : ∀ (d : PyData) (v : V), Rp H d v → Rp H' d v
  | .none, _, h => by simpa only [Rp] using h
  | .bool _, _, h => by simpa only [Rp] using h
  | .int _, _, h => by simpa only [Rp] using h
  | .str _, _, h => by simpa only [Rp] using h
  | .list ds, v, h => by
    simp only [Rp] at h ⊢
    obtain ⟨a, xs, e, h1, h2⟩ := h
    exact ⟨a, xs, e, g _ _ h1, Rps.mono g ds xs h2⟩
  | .tuple ds, v, h => by
    simp only [Rp] at h ⊢
    obtain ⟨a, xs, e, h1, h2⟩ := h
    exact ⟨a, xs, e, g _ _ h1, Rps.mono g ds xs h2⟩
  | .dict _, _, h => by simp only [Rp] at h
theorem Rps.mono {H H' : Hp} (g : Same H H') : ∀ (ds : List PyData) (xs : List V), Rps H ds xs → Rps H' ds xs
  | [], xs, h => by simpa only [Rps] using h
  | d :: ds, xs, h => by
    simp only [Rps] at h ⊢
    obtain ⟨x, r, e, h1, h2⟩ := h
    exact ⟨x, r, e, Rp.mono g d x h1, Rps.mono g ds r h2⟩
end
section
variable {X : Cx} {pins : List (Addr × Obj)} {σ : St} {H : Hp} {s : Shared}
mutual
theorem Rp.reads (I : Inv X pins σ H s) : ∀ (d : PyData) (v : V) (u : Value), Rp H d v → RelV v u → ∃ as, Reads s.heap u d as
  | .none, v, u, h, r => by
    simp only [Rp] at h
    subst h
    cases (show u = Value.none from r)
    exact ⟨_, .none⟩
  | .bool b, v, u, h, r => by
    simp only [Rp] at h
    subst h
    cases (show u = Value.bool b from r)
    exact ⟨_, .bool b⟩
  | .int i, v, u, h, r => by
    simp only [Rp] at h
    subst h
    obtain ⟨t, e⟩ := (show ∃ t, u = Value.int i t from r)
    subst e
    exact ⟨_, .int i t⟩
  | .str x, v, u, h, r => by
    simp only [Rp] at h
    subst h
    obtain ⟨t, e⟩ := (show ∃ t, u = Value.str x t from r)
    subst e
    exact ⟨_, .str x t⟩
  | .list ds, v, u, h, r => by
    simp only [Rp] at h
    obtain ⟨a, xs, e, h1, h2⟩ := h
    subst e
    cases (show u = Value.ref a from r)
    obtain ⟨_, its, n, hv, hg⟩ := (show ObjOk X.prog X.w H s.heap a (.lst xs) from I.hok a _ h1)
    obtain ⟨as, q⟩ := Rps.reads I ds xs its h2 hv
    exact ⟨_, .list hg rfl rfl q⟩
  | .tuple ds, v, u, h, r => by
    simp only [Rp] at h
    obtain ⟨a, xs, e, h1, h2⟩ := h
    subst e
    cases (show u = Value.ref a from r)
    obtain ⟨_, its, hv, o, hg, hc, n, hd⟩ := (show ObjOk X.prog X.w H s.heap a (.tup xs) from I.hok a _ h1)
    obtain ⟨as, q⟩ := Rps.reads I ds xs its h2 hv
    exact ⟨_, .tuple hg hc hd q⟩
  | .dict _, v, u, h, r => by simp only [Rp] at h
theorem Rps.reads (I : Inv X pins σ H s) : ∀ (ds : List PyData) (xs : List V) (us : List Value), Rps H ds xs → Vals xs us → ∃ as, ReadsAll s.heap us ds as
  | [], xs, us, h, r => by
    simp only [Rps] at h
    subst h
    cases r
    exact ⟨_, .nil⟩
  | d :: ds, xs, us, h, r => by
    simp only [Rps] at h
    obtain ⟨x, rr, e, h1, h2⟩ := h
    subst e
    cases r with
    | cons r1 r2 =>
      obtain ⟨as, q1⟩ := Rp.reads I d x _ h1 r1
      obtain ⟨bs, q2⟩ := Rps.reads I ds rr _ h2 r2
      exact ⟨_, .cons q1 q2⟩
end
/-- == and != of data -/
noncomputable def rEqD (f : Bool → Bool) : R2 := fun x y H Q => ∃ dx dy, Rp H dx x ∧ Rp H dy y ∧ dx.canLay0 = true ∧ dy.canLay0 = true ∧ min dx.depth dy.depth ≤ 60 ∧ Q (.bl (f (PyData.eqv dx dy))) H
theorem op_neD {k : Nat} (hr : Room k X.A) : OpR X (compareOp .NotEq) (rEqD not) := by
  intro pins s σ H x y v u Q I rx ry h
  obtain ⟨dx, dy, h1, h2, l1, l2, hd, q⟩ := h
  obtain ⟨as, r1⟩ := Rp.reads I dx x v h1 rx
  obtain ⟨bs, r2⟩ := Rp.reads I dy y u h2 ry
  exact SeqAt.compareNe_reads r1 r2 l1 l2 (by have := hr.units; (first | lia | omega)) ⟨.bl _, H, I, rfl, q⟩
end
/-! ### two lists walked together -/
end L2

namespace Nm
/-- a number: a fraction, or a rest -/
inductive Nb where
  | q (r : Rat)
  | z (i : Int)
  deriving DecidableEq
/-- a number of the kind -/
noncomputable def Nb.ok (k : Int) : Nb → Prop
  | .q _ => k = 0
  | .z i => k ≠ 0 ∧ 0 ≤ i ∧ i < k
noncomputable def nnum (k w : Int) : Nb := if k = 0 then .q (w : Rat) else .z (w.fmod k)
end Nm

namespace L2
open PySem PySem.Spec PyProof.Rows Nm
/-! ### numbers as data -/
noncomputable def toD : Nb → PyData
  | .q r => .tuple [.int r.num, .int (r.den : Int)]
  | .z i => .int i
noncomputable def RN (H : Hp) (x : Nb) (v : V) : Prop := Rp H (toD x) v
theorem RN.q {H : Hp} {r : Rat} {v : V} (h : RN H (.q r) v) : ∃ a, v = .ref a ∧ H a = some (.tup [.int r.num, .int (r.den : Int)]) := by
  simp only [RN, toD, Rp, Rps] at h
  obtain ⟨a, xs, e, h1, x, r1, e1, e2, y, r2, e3, e4, e5⟩ := h
  subst e5 e4 e3 e2 e1
  exact ⟨a, e, h1⟩
theorem RN.of_q {H : Hp} {r : Rat} {a : Addr} (h : H a = some (.tup [.int r.num, .int (r.den : Int)])) : RN H (.q r) (.ref a) := by
  simp only [RN, toD, Rp, Rps]
  exact ⟨a, _, rfl, h, _, _, rfl, rfl, _, _, rfl, rfl, rfl⟩
theorem RN.z {H : Hp} {i : Int} {v : V} (h : RN H (.z i) v) : v = .int i := by
  simpa only [RN, toD, Rp] using h
theorem RN.of_z {H : Hp} {i : Int} : RN H (.z i) (.int i) := by
  simp only [RN, toD, Rp]
theorem RN.mono {H H' : Hp} {x : Nb} {v : V} (h : RN H x v) (g : Same H H') : RN H' x v := Rp.mono g _ _ h
theorem toD_lay (x : Nb) : (toD x).canLay0 = true := by
  cases x <;> rfl
theorem toD_depth (x : Nb) : (toD x).depth ≤ 1 := by
  cases x <;> simp [toD, PyData.depth, PyData.depthAll]
theorem toD_eqv (x y : Nb) : PyData.eqv (toD x) (toD y) = decide (x = y) := by
  cases x with
  | q r =>
    cases y with
    | q s =>
      show ((r.num == s.num) && (((r.den : Int) == (s.den : Int)) && true)) = decide (Nb.q r = Nb.q s)
      by_cases h : r = s
      · subst h; simp
      · have h' : ¬ Nb.q r = Nb.q s := fun z => h (Nb.q.inj z)
        rw [decide_eq_false h']
        rw [Bool.and_eq_false_iff]
        by_cases h1 : r.num = s.num
        · right
          rw [Bool.and_true]
          have : ¬ (r.den : Int) = (s.den : Int) := fun z => h (Rat.ext h1 (by (first | lia | omega)))
          simp [this]
        · left; simp [h1]
    | z j => simp [toD, PyData.eqv]
  | z i =>
    cases y with
    | q s => simp [toD, PyData.eqv]
    | z j =>
      show (i == j) = decide (Nb.z i = Nb.z j)
      by_cases h : i = j
      · subst h; simp
      · have h' : ¬ Nb.z i = Nb.z j := fun z => h (Nb.z.inj z)
        rw [decide_eq_false h']; simp [h]
/-! ### what the four make -/
end L2

namespace L2
open PySem PySem.Spec PyProof.Rows Nm
/-! ### pairs of lists -/
section
variable {α β : Type} {R S : α → β → Prop}
theorem pd_len : ∀ {xs : List α} {ys : List β}, Paired R xs ys → xs.length = ys.length
  | _, _, .nil => rfl
  | _, _, .cons _ t => congrArg (· + 1) (pd_len t)
theorem pd_imp (f : ∀ a b, R a b → S a b) : ∀ {xs : List α} {ys : List β}, Paired R xs ys → Paired S xs ys
  | _, _, .nil => .nil
  | _, _, .cons r t => .cons (f _ _ r) (pd_imp f t)
theorem pd_app : ∀ {xs xs' : List α} {ys ys' : List β}, Paired R xs ys → Paired R xs' ys' → Paired R (xs ++ xs') (ys ++ ys')
  | _, _, _, _, .nil, s => s
  | _, _, _, _, .cons r t, s => .cons r (pd_app t s)
theorem pd_snoc {xs : List α} {ys : List β} {a : α} {b : β} (h : Paired R xs ys) (r : R a b) : Paired R (xs ++ [a]) (ys ++ [b]) := pd_app h (.cons r .nil)
theorem pd_left : ∀ {xs : List α} {ys : List β} {i : Nat} {a : α}, Paired R xs ys → xs[i]? = some a → ∃ b, ys[i]? = some b ∧ R a b
  | _, _, _, _, .nil, e => by simp at e
  | _, _, 0, _, .cons r _, e => by simp at e; subst e; exact ⟨_, rfl, r⟩
  | _, _, i + 1, a, .cons _ t, e => by
    obtain ⟨b, h1, h2⟩ := pd_left (i := i) (a := a) t (by simpa using e)
    exact ⟨b, by simpa using h1, h2⟩
theorem pd_right : ∀ {xs : List α} {ys : List β} {i : Nat} {b : β}, Paired R xs ys → ys[i]? = some b → ∃ a, xs[i]? = some a ∧ R a b
  | _, _, _, _, .nil, e => by simp at e
  | _, _, 0, _, .cons r _, e => by simp at e; subst e; exact ⟨_, rfl, r⟩
  | _, _, i + 1, b, .cons _ t, e => by
    obtain ⟨a, h1, h2⟩ := pd_right (i := i) (b := b) t (by simpa using e)
    exact ⟨a, by simpa using h1, h2⟩
theorem pd_mem : ∀ {xs : List α} {ys : List β} {b : β}, Paired R xs ys → b ∈ ys → ∃ a ∈ xs, R a b
  | _, _, _, .nil, e => nomatch e
  | _, _, b, .cons r t, e => by
    rcases List.mem_cons.mp e with rfl | e
    · exact ⟨_, List.mem_cons_self, r⟩
    · obtain ⟨a, h1, h2⟩ := pd_mem t e
      exact ⟨a, List.mem_cons_of_mem _ h1, h2⟩
end
theorem take_snoc {α : Type} {l : List α} {i : Nat} {x : α} (h : l[i]? = some x) : l.take (i + 1) = l.take i ++ [x] := by
  obtain ⟨hi, e⟩ := List.getElem?_eq_some_iff.mp h
  rw [List.take_succ_eq_append_getElem hi, e]
/-! ### rows and tables of numbers -/
noncomputable def RowAt (H : Hp) (xs : List Nb) (a : Addr) : Prop := ∃ vs, H a = some (.lst vs) ∧ Paired (RN H) xs vs
noncomputable def TabAt (H : Hp) (M : List (List Nb)) (top : Addr) (ras : List Addr) : Prop := H top = some (.lst (ras.map V.ref)) ∧ Paired (RowAt H) M ras
theorem pd_rn {H H' : Hp} (g : Same H H') {xs : List Nb} {vs : List V} (h : Paired (RN H) xs vs) : Paired (RN H') xs vs := pd_imp (fun _ _ r => r.mono g) h
theorem RowAt.mono {H H' : Hp} {xs : List Nb} {a : Addr} (h : RowAt H xs a) (g : Same H H') : RowAt H' xs a :=
  let ⟨vs, h1, h2⟩ := h
  ⟨vs, g _ _ h1, pd_rn g h2⟩
theorem TabAt.mono {H H' : Hp} {M : List (List Nb)} {top : Addr} {ras : List Addr} (h : TabAt H M top ras) (g : Same H H') : TabAt H' M top ras := ⟨g _ _ h.1, pd_imp (fun _ _ r => r.mono g) h.2⟩
theorem TabAt.row {H : Hp} {M : List (List Nb)} {top : Addr} {ras : List Addr} {i : Nat} {v : V} (h : TabAt H M top ras) (e : (ras.map V.ref)[i]? = some v) : ∃ xs a, M[i]? = some xs ∧ ras[i]? = some a ∧ v = .ref a ∧ RowAt H xs a := by
  rw [List.getElem?_map] at e
  obtain ⟨a, ha, rfl⟩ := Option.map_eq_some_iff.mp e
  obtain ⟨xs, hx, r⟩ := pd_right h.2 ha
  exact ⟨xs, a, hx, ha, rfl, r⟩
/-- as data -/
noncomputable def rowD (xs : List Nb) : PyData := .list (xs.map toD)
noncomputable def tabD (M : List (List Nb)) : PyData := .list (M.map rowD)
theorem rps_row {H : Hp} : ∀ {xs : List Nb} {vs : List V}, Paired (RN H) xs vs → Rps H (xs.map toD) vs
  | _, _, .nil => by simp [Rps]
  | _, _, .cons r t => by
    simp only [List.map_cons, Rps]
    exact ⟨_, _, rfl, r, rps_row t⟩
theorem RowAt.rp {H : Hp} {xs : List Nb} {a : Addr} (h : RowAt H xs a) : Rp H (rowD xs) (.ref a) := by
  obtain ⟨vs, h1, h2⟩ := h
  simp only [rowD, Rp]
  exact ⟨a, vs, rfl, h1, rps_row h2⟩
theorem rps_rows {H : Hp} : ∀ {M : List (List Nb)} {ras : List Addr}, Paired (RowAt H) M ras → Rps H (M.map rowD) (ras.map V.ref)
  | _, _, .nil => by simp [Rps]
  | _, _, .cons r t => by
    simp only [List.map_cons, Rps]
    exact ⟨_, _, rfl, r.rp, rps_rows t⟩
theorem TabAt.rp {H : Hp} {M : List (List Nb)} {top : Addr} {ras : List Addr} (h : TabAt H M top ras) : Rp H (tabD M) (.ref top) := by
  simp only [tabD, Rp]
  exact ⟨top, _, rfl, h.1, rps_rows h.2⟩
theorem layAll_map {α : Type} (f : α → PyData) (h : ∀ x, (f x).canLay0 = true) : ∀ l : List α, PyData.canLayAll0 (l.map f) = true
  | [] => rfl
  | x :: r => by
    show ((f x).canLay0 && PyData.canLayAll0 (r.map f)) = true
    rw [h x, layAll_map f h r]; rfl
theorem depthAll_map {α : Type} (f : α → PyData) (n : Nat) (h : ∀ x, (f x).depth ≤ n) : ∀ l : List α, PyData.depthAll (l.map f) ≤ n
  | [] => Nat.zero_le _
  | x :: r => by
    show max (f x).depth (PyData.depthAll (r.map f)) ≤ n
    exact Nat.max_le.mpr ⟨h x, depthAll_map f n h r⟩
theorem rowD_lay (xs : List Nb) : (rowD xs).canLay0 = true := layAll_map toD toD_lay xs
theorem rowD_depth (xs : List Nb) : (rowD xs).depth ≤ 2 := Nat.succ_le_succ (depthAll_map toD 1 toD_depth xs)
theorem tabD_lay (M : List (List Nb)) : (tabD M).canLay0 = true := layAll_map rowD rowD_lay M
theorem tabD_depth (M : List (List Nb)) : (tabD M).depth ≤ 3 := Nat.succ_le_succ (depthAll_map rowD 2 rowD_depth M)
theorem eqvAll_map {α : Type} (f : α → PyData) (h : ∀ x, PyData.eqv (f x) (f x) = true) : ∀ l : List α, PyData.eqvAll (l.map f) (l.map f) = true
  | [] => rfl
  | x :: r => by
    show (PyData.eqv (f x) (f x) && PyData.eqvAll (r.map f) (r.map f)) = true
    rw [h x, eqvAll_map f h r]; rfl
theorem toD_self (x : Nb) : PyData.eqv (toD x) (toD x) = true := by rw [toD_eqv]; simp
theorem rowD_self (xs : List Nb) : PyData.eqv (rowD xs) (rowD xs) = true := eqvAll_map toD toD_self xs
theorem tabD_self (M : List (List Nb)) : PyData.eqv (tabD M) (tabD M) = true := eqvAll_map rowD rowD_self M
/-! ### the walks of a comprehension, by an invariant -/
/-- one turn on -/
noncomputable def Nxt (n i : Nat) (J : Prop) : Prop := ∃ m', m' < n - i ∧ m' = n - (i + 1) ∧ i + 1 ≤ n ∧ J
theorem nxt {n i : Nat} {J : Prop} (h : i < n) (j : J) : Nxt n i J := ⟨n - (i + 1), by (first | lia | omega), rfl, h, j⟩
section
variable {K : PySem.W.Frag} {g : TG} {tt : TT} {te : TE} {R : List V → Hp → Prop} {H : Hp} {σb : St}
theorem comp_list {a : Addr} {xs : List V} (J : Nat → List V → Hp → Prop) (h0 : J 0 [] H) (hl : ∀ (i : Nat) (ys : List V) (H' : Hp), i ≤ xs.length → J i ys H' → SqL K H' a xs ∧ ys.length < sizeLine)
    (hs : ∀ (i : Nat) (x : V) (ys : List V) (H' : Hp), xs[i]? = some x → i < xs.length → J i ys H' → g x σb H' fun σ2 H2 => tt σ2 H2 fun b H3 => if b = true then te σ2 H3 fun y H4 => Nxt xs.length i (J (i + 1) (ys ++ [y]) H4) else Nxt xs.length i (J (i + 1) ys H3))
    (hd : ∀ (ys : List V) (H' : Hp), J xs.length ys H' → R ys H') :
    ∃ W : Nat → Nat → List V → Hp → Prop, (∃ m, W 0 m [] H) ∧ ∀ i m ys H, W i m ys H →
      ((Itl K a).stop i H ∧ ys.length ≤ sizeLine ∧ R ys H) ∨
      ((Itl K a).go i H ∧ ys.length < sizeLine ∧ ∀ x H', (Itl K a).yld i H x H' → g x σb H' fun σ2 H2 => tt σ2 H2 fun b H3 => if b = true then te σ2 H3 fun y H4 => ∃ m', m' < m ∧ W (i + 1) m' (ys ++ [y]) H4 else ∃ m', m' < m ∧ W (i + 1) m' ys H3) := by
  refine ⟨fun i m ys H => m = xs.length - i ∧ i ≤ xs.length ∧ J i ys H, ⟨xs.length, by simp, Nat.zero_le _, h0⟩, ?_⟩
  rintro i m ys H1 ⟨rfl, hi, j⟩
  obtain ⟨q, hz⟩ := hl i ys H1 hi j
  by_cases hlt : i < xs.length
  · refine .inr ⟨⟨xs, xs[i], q, by simp [hlt]⟩, hz, fun x H' y => ?_⟩
    obtain ⟨e, y⟩ := y
    subst e
    exact hs i x ys _ (y xs q) hlt j
  · have e : i = xs.length := by (first | lia | omega)
    subst e
    exact .inl ⟨⟨xs, q, Nat.le_refl _⟩, Nat.le_of_lt hz, hd ys H1 j⟩
theorem comp_range {lo : Int} {n : Nat} (J : Nat → List V → Hp → Prop) (h0 : J 0 [] H) (hl : ∀ (i : Nat) (ys : List V) (H' : Hp), i ≤ n → J i ys H' → ys.length < sizeLine)
    (hs : ∀ (i : Nat) (ys : List V) (H' : Hp), i < n → J i ys H' → g (.int (lo + i)) σb H' fun σ2 H2 => tt σ2 H2 fun b H3 => if b = true then te σ2 H3 fun y H4 => Nxt n i (J (i + 1) (ys ++ [y]) H4) else Nxt n i (J (i + 1) ys H3))
    (hd : ∀ (ys : List V) (H' : Hp), J n ys H' → R ys H') :
    ∃ W : Nat → Nat → List V → Hp → Prop, (∃ m, W 0 m [] H) ∧ ∀ i m ys H, W i m ys H →
      ((Itr lo n).stop i H ∧ ys.length ≤ sizeLine ∧ R ys H) ∨
      ((Itr lo n).go i H ∧ ys.length < sizeLine ∧ ∀ x H', (Itr lo n).yld i H x H' → g x σb H' fun σ2 H2 => tt σ2 H2 fun b H3 => if b = true then te σ2 H3 fun y H4 => ∃ m', m' < m ∧ W (i + 1) m' (ys ++ [y]) H4 else ∃ m', m' < m ∧ W (i + 1) m' ys H3) := by
  refine ⟨fun i m ys H => m = n - i ∧ i ≤ n ∧ J i ys H, ⟨n, by simp, Nat.zero_le _, h0⟩, ?_⟩
  rintro i m ys H1 ⟨rfl, hi, j⟩
  have hz := hl i ys H1 hi j
  by_cases hlt : i < n
  · refine .inr ⟨hlt, hz, fun x H' y => ?_⟩
    obtain ⟨e, y⟩ := y
    subst e y
    exact hs i ys _ hlt j
  · have e : i = n := by (first | lia | omega)
    subst e
    exact .inl ⟨Nat.le_refl _, Nat.le_of_lt hz, hd ys H1 j⟩
end
end L2

namespace La
open Lean.Grind
section
variable {F : Type} [Field F]
variable {S T : (Nat → F) → Prop} {u v : Nat → F}
/-! ### reduced lists: pairs of a lead and a row -/
noncomputable abbrev Pv (F : Type) := Nat × (Nat → F)
variable {n : Nat} {P Q : List (Pv F)}
/-! ### sweeping -/
variable {c : Nat} {O : (Nat → F) → Prop} {D D' : List (Pv F)} {W W' : List (Nat → F)}
end
end La

namespace La
open Lean.Grind Nm
noncomputable def zpw {F : Type} [CommRing F] (inv : F → F) (a : F) : Int → F
  | .ofNat n => a ^ n
  | .negSucc n => inv (a ^ (n + 1))
@[reducible] noncomputable def fieldOf {F : Type} [CommRing F] (h01 : (0 : F) ≠ 1) (hinv : ∀ a : F, ∃ b : F, (a = 0 → b = 0) ∧ (a ≠ 0 → a * b = 1)) : Field F :=
  have un : ∀ a b c : F, a * b = 1 → a * c = 1 → b = c := fun a b c h1 h2 => by
    have : b = b * (a * c) := by rw [h2]; grind
    have : c = c * (a * b) := by rw [h1]; grind
    grind
  let inv : F → F := fun a => Classical.choose (hinv a)
  have i0 : ∀ a, a = 0 → inv a = 0 := fun a => (Classical.choose_spec (hinv a)).1
  have i1 : ∀ a, a ≠ 0 → a * inv a = 1 := fun a => (Classical.choose_spec (hinv a)).2
  have ii : ∀ a, inv (inv a) = a := fun a => by
    by_cases h : a = 0
    · rw [i0 a h, i0 0 rfl, h]
    · have h' : inv a ≠ 0 := fun z => by
        have := i1 a h
        rw [z] at this
        exact h01 (by rw [← this]; grind)
      have e1 := i1 a h
      have e2 := i1 _ h'
      exact un (inv a) _ _ e2 (by rw [← e1]; grind)
  letI : Inv F := ⟨inv⟩
  letI : Div F := ⟨fun a b => a * inv b⟩
  letI : HPow F Int F := ⟨zpw inv⟩
  { zpow := ⟨zpw inv⟩
    div_eq_mul_inv := fun a b => rfl
    zero_ne_one := h01
    inv_zero := i0 0 rfl
    mul_inv_cancel := fun {a} h => i1 a h
    zpow_zero := fun a => Semiring.pow_zero a
    zpow_succ := fun a n => Semiring.pow_succ a n
    zpow_neg := fun a n => by
      show zpw inv a (-n) = inv (zpw inv a n)
      match n with
      | .ofNat 0 =>
        show a ^ 0 = inv (a ^ 0)
        rw [Semiring.pow_zero]
        have := i1 1 (Ne.symm h01)
        exact un 1 _ _ (by grind) this
      | .ofNat (m + 1) => rfl
      | .negSucc m =>
        show a ^ (m + 1) = inv (inv (a ^ (m + 1)))
        rw [ii] }
/-! fractions -/
/-! rests -/
end La

namespace La
open Lean.Grind Nm
/-! ### rows of whole numbers -/
end La

namespace La
open Lean.Grind Nm
end La

namespace L2
open PySem PySem.Spec PyProof.Rows Nm
/-! ### // of any size -/
noncomputable def TopOk (X : Cx) : Prop := ∃ env l, X.stack = env :: l ∧ env.scope.isGenerator = false ∧ env.scope.isCoroutine = false ∧ env.builtins = builtinsNs ∧ env.globals = mainGlobals
theorem op_fdivU {X : Cx} {k : Nat} (hr : Room k X.A) (hk : 40 ≤ k) (hP : X.prog.given.tree = none) (hS : X.base.NoSeer) (hT : TopOk X) : OpR X (binaryOp .FloorDiv) (rI (fun _ j => j ≠ 0) fun i j => .int (i.fdiv j)) := by
  intro pins s σ H x y v u Q I rx ry h
  obtain ⟨i, j, rfl, rfl, hc, q⟩ := h
  obtain ⟨t, rfl⟩ := rx
  obtain ⟨t', rfl⟩ := ry
  obtain ⟨env, l, e, h1, h2, h3, h4⟩ := hT
  have hd : X.A.depth + Builtin.pylongFrames < recursionLimit := by
    have := hr.dp
    have : Builtin.pylongFrames = 100 := rfl
    (first | lia | omega)
  exact floordiv_int hc ⟨.int (i.fdiv j), H, I.tok _, ⟨_, rfl⟩, q⟩ (.inr (PylongRoom.of I.nolimit hd (SeerAt.of (hS.keeps I.bk) hP (I.ok.frames.trans (congrArg some e)) h1 h2 h3 h4)))
/-! ### rows of whole numbers, fresh rows and tables -/
/-- a table made anew: rows of their own -/
structure NewT (H H' : Hp) (M : List (List Nb)) (top : Addr) (ras : List Addr) : Prop where
  tab : TabAt H' M top ras
  ft : H top = none
  fr : ∀ r ∈ ras, H r = none
  nd : ras.Nodup
  nt : top ∉ ras
theorem Same.none {H H' : Hp} (g : Same H H') {p : Addr} (h : H' p = none) : H p = none := by
  cases e : H p with
  | none => rfl
  | some u => rw [g _ _ e] at h; cases h
theorem same_upd {H H' : Hp} {p : Addr} {o : HO} (g : Same H H') (h : H p = none) : Same H (upd H' p o) := fun b u q => by
  rw [upd_ne (ne_of_none q h)]; exact g _ _ q
theorem RowAt.len {H : Hp} {xs : List Nb} {a : Addr} (h : RowAt H xs a) : ∃ vs, H a = some (.lst vs) ∧ Paired (RN H) xs vs ∧ vs.length = xs.length :=
  let ⟨vs, h1, h2⟩ := h
  ⟨vs, h1, h2, (pd_len h2).symm⟩
theorem pd_of {α β : Type} {R : α → β → Prop} : ∀ {xs : List α} {ys : List β}, xs.length = ys.length → (∀ (i : Nat) (a : α) (b : β), xs[i]? = some a → ys[i]? = some b → R a b) → Paired R xs ys
  | [], [], _, _ => .nil
  | [], _ :: _, h, _ => by simp at h
  | _ :: _, [], h, _ => by simp at h
  | a :: xs, b :: ys, h, f => .cons (f 0 a b rfl rfl) (pd_of (by simpa using h) fun i x y h1 h2 => f (i + 1) x y (by simpa using h1) (by simpa using h2))
theorem pd_get {α β : Type} {R : α → β → Prop} {xs : List α} {ys : List β} {i : Nat} {a : α} {b : β} (h : Paired R xs ys) (h1 : xs[i]? = some a) (h2 : ys[i]? = some b) : R a b := by
  obtain ⟨b', e, r⟩ := pd_left h h1
  rw [h2] at e; cases e; exact r
/-! ### sizes -/
/-! ### (a, b, ..) = a list of that length -/
/-! ### lcm, by steps -/
/-! ### tables that grow -/
theorem RN.upd {H : Hp} {x : Nb} {v : V} {t : Addr} {zs zs' : List V} (h : RN H x v) (ht : H t = some (.lst zs)) : RN (upd H t (.lst zs')) x v := by
  cases x with
  | q r =>
    obtain ⟨a, rfl, ha⟩ := h.q
    exact RN.of_q (by rw [upd_ne (fun e => by rw [e, ht] at ha; cases ha)]; exact ha)
  | z i => rw [h.z]; exact RN.of_z
theorem RowAt.upd {H : Hp} {xs : List Nb} {a t : Addr} {zs zs' : List V} (h : RowAt H xs a) (ne : a ≠ t) (ht : H t = some (.lst zs)) : RowAt (upd H t (.lst zs')) xs a :=
  let ⟨vs, h1, h2⟩ := h
  ⟨vs, by rw [upd_ne ne]; exact h1, pd_imp (fun _ _ r => r.upd ht) h2⟩
theorem RowAt.some {H : Hp} {xs : List Nb} {a : Addr} (h : RowAt H xs a) : ∃ o, H a = some o := let ⟨vs, h1, _⟩ := h; ⟨_, h1⟩
structure Grow (H H' : Hp) (M : List (List Nb)) (ras : List Addr) : Prop where
  same : Same H H'
  rows : Paired (RowAt H') M ras
  fr : ∀ r ∈ ras, H r = none
  nd : ras.Nodup
theorem Grow.nil (H : Hp) {H' : Hp} (g : Same H H') : Grow H H' [] [] := ⟨g, .nil, fun _ h => (nomatch h), .nil⟩
section
variable {H H' H2 : Hp} {M : List (List Nb)} {ras : List Addr}
theorem Grow.mono (G : Grow H H' M ras) (g : Same H' H2) : Grow H H2 M ras := ⟨G.same.trans g, pd_imp (fun _ _ r => r.mono g) G.rows, G.fr, G.nd⟩
theorem Grow.not_mem (G : Grow H H' M ras) {p : Addr} (hp : H' p = none) : p ∉ ras := fun hm => by
  obtain ⟨xs, _, h⟩ := pd_mem G.rows hm
  obtain ⟨o, e⟩ := h.some
  rw [hp] at e; cases e
theorem Grow.snoc (G : Grow H H' M ras) {xs : List Nb} {vs : List V} {p : Addr} (hp : H' p = none) (hr : Paired (RN H') xs vs) : Grow H (upd H' p (.lst vs)) (M ++ [xs]) (ras ++ [p]) := by
  have g := same_new hp (.lst vs)
  have G' := G.mono g
  refine ⟨G'.same, pd_snoc G'.rows ⟨vs, upd_same, pd_rn g hr⟩, fun r hr' => ?_, ?_⟩
  · rcases List.mem_append.mp hr' with h | h
    · exact G.fr r h
    · rw [List.mem_singleton.mp h]; exact G.same.none hp
  · rw [List.nodup_append]
    refine ⟨G.nd, by simp, fun a ha b hb => ?_⟩
    rw [List.mem_singleton.mp hb]
    exact fun e => G.not_mem hp (by rw [← e]; exact ha)
theorem Grow.done (G : Grow H H' M ras) {top : Addr} (ht : H' top = none) : NewT H (upd H' top (.lst (ras.map V.ref))) M top ras :=
  ⟨⟨upd_same, pd_imp (fun _ _ r => r.mono (same_new ht _)) G.rows⟩, G.same.none ht, G.fr, G.nd, G.not_mem ht⟩
end
theorem gyes {i : Nat} {x : V} {σ : St} {H : Hp} {A B : St → Hp → Prop} (h : A (σ.set i (some x)) H) : gName i x σ H fun σ2 H2 => tTrue σ2 H2 fun b H3 => if b = true then A σ2 H3 else B σ2 H3 := by
  show if true = true then A (σ.set i (some x)) H else B (σ.set i (some x)) H
  exact iteT h
/-! ### rules by the written part itself (within a block X.K would name the block) -/
section
variable {X : Cx} {K : PySem.W.Frag}
theorem ix_listK (hK : X.K = K) : IxR X (rIxL K) := hK ▸ ix_list
theorem sl_listK (hK : X.K = K) : SlR X (rSlL K) := hK ▸ sl_list
theorem call_lenK (hK : X.K = K) : CallR X (.builtin "len") (fun xs H Q => ∃ p ys, xs = [.ref p] ∧ (SqL K H p ys ∨ SqT K H p ys) ∧ Q (.int ys.length) H) := hK ▸ call_len_seq
theorem call_isiK (hK : X.K = K) : CallR X (.builtin "isinstance") (rIsi K) := hK ▸ call_isi
theorem pi_listK {tg l : Expr} {tl : TE} (hK : X.K = K) (hl : PE X l tl) : PI X tg l (iList K tl) := hK ▸ pi_list hl
end
end L2

namespace La
open Lean.Grind Nm
end La

namespace L2
open PySem PySem.Spec PyProof.Rows Nm
/-! ### lists of rows of whole numbers -/
/-! ### sizes of what is swept -/
end L2

namespace La
open Lean.Grind Nm
/-! ### numbers over a known bottom: how row turns let them grow -/
/-! ### row turns keep the room -/
end La

namespace L2
open PySem PySem.Spec PyProof.Rows Nm
/-! ### sizes by bottoms -/
end L2

namespace La
open Lean.Grind Nm
end La

namespace L2
open PySem PySem.Spec PyProof.Rows Nm
end L2

namespace La
open Lean.Grind Nm
/-! ### rows over one bottom: sizes -/
/-! ### the leads that are found so far -/
end La

namespace La
open Lean.Grind Nm
end La

namespace La
open Lean.Grind Nm
end La

namespace La
open Lean.Grind Nm
end La

namespace La
open Lean.Grind Nm
end La

namespace L2
open PySem PySem.Spec PyProof.Rows Nm
/-! ### sizes of sums of products, the two sides apart -/
/-! ### rows and machines -/
/-! ### runs -/
/-! ### a row that a call made is appended -/
theorem Grow.pushR {H H' H2 : Hp} {M : List (List Nb)} {ras : List Addr} (G : Grow H H' M ras) {t p : Addr} {xs : List Nb} {zs zs' : List V} (tn : H t = none) (ht : H' t = some (.lst zs)) (tr : t ∉ ras) (g : Same H' H2) (hp : H' p = none) (hr : RowAt H2 xs p) :
    Grow H (upd H2 t (.lst zs')) (M ++ [xs]) (ras ++ [p]) ∧ t ∉ ras ++ [p] := by
  have ht2 : H2 t = some (.lst zs) := g _ _ ht
  have tp : t ≠ p := fun e => by rw [e, hp] at ht; cases ht
  have nm : t ∉ ras ++ [p] := fun h => by
    rcases List.mem_append.mp h with h | h
    · exact tr h
    · exact tp (List.mem_singleton.mp h)
  have R : Paired (RowAt H2) (M ++ [xs]) (ras ++ [p]) := pd_snoc (G.mono g).rows hr
  refine ⟨⟨same_upd (G.same.trans g) tn, ?_, fun r hr' => ?_, ?_⟩, nm⟩
  · refine pd_of (pd_len R) fun i x a h1 h2 => (pd_get R h1 h2).upd (fun e => nm ?_) ht2
    rw [← e]
    exact List.mem_of_getElem? h2
  · rcases List.mem_append.mp hr' with h | h
    · exact G.fr r h
    · rw [List.mem_singleton.mp h]; exact G.same.none hp
  · rw [List.nodup_append]
    refine ⟨G.nd, by simp, fun a ha b hb => ?_⟩
    rw [List.mem_singleton.mp hb]
    exact fun e => G.not_mem hp (by rw [← e]; exact ha)
end L2

namespace L2
open PySem PySem.Spec PyProof.Rows Nm
/-! ### lists of tables -/
/-! ### tables whose rows are appended to -/
/-! ### marks -/
end L2
namespace L2
open PySem PySem.Spec PyProof.Rows Nm
/-! ### tables told, changed one after the other -/
end L2

namespace L2
open PySem PySem.Spec PyProof.Rows Nm
/-! ### sizes, the two sides apart; by rests there is nothing to say -/
/-! ### tables told anew that are changed -/
end L2

namespace L2
open PySem PySem.Spec PyProof.Rows Nm
end L2

namespace L2
open PySem PySem.Spec PyProof.Rows
section
variable {P : Program} {w : World} {K : PySem.W.Frag} {mg : Str → Option Value} {base : Heap}
/-- what the fragment tells of a class of the text's own -/
theorem exc_obj {h : Heap} {C : Addr} {bmB : List Value} {newId : String} (X : K.In h) (q : PySem.W.excIn K C bmB newId = true) :
    ∃ bm N nm q bs hdct sn sub ab col dd k0 k1 k2 k3 k5 mN, h.get? C = some (excClassObj nm q C N bs bm hdct sn sub ab col dd k0 k1 k2 k3 k5 newId) ∧ h.Ns N mN ∧ mN (Str.ofString "__init__") = none ∧ OwnTail h bmB bm := by
  unfold PySem.W.excIn at q
  split at q
  · rename_i dict cd sl hl
    split at q
    · rename_i C' bm a b c d n e hm hs
      simp only [Bool.and_eq_true, beq_iff_eq, Bool.not_eq_true'] at q
      obtain ⟨⟨⟨⟨⟨rfl, rfl⟩, hdel⟩, ht⟩, hok⟩, hni⟩ := q
      obtain ⟨nm, bs, mro, ns, qn, hd, sn, sub, ab, col, del⟩ := cd
      obtain ⟨sl⟩ := sl
      simp only at hm hs hdel hok hni
      subst hm hs hdel
      exact ⟨bm, ns, nm, qn, bs, hd, sn, sub, ab, col, dict, a, b, c, d, e, h.nsMap ns, X _ _ hl, Heap.Ns.of_isNs (PySem.W.isNs_of_in X hok), PySem.W.nsMap_none_of_in X hok hni, PySem.W.tail_of_in X ht⟩
    · cases q
  · cases q
noncomputable abbrev bmVE : List Value := [Value.type "ValueError", Value.type "Exception", Value.type "BaseException", Value.type "object"]
/-- a class of the text's own, below ValueError -/
structure Ec (K : PySem.W.Frag) (mg : Str → Option Value) (x : Str) (C : Addr) : Prop where
  bound : mg x = some (.ref C)
  own : PySem.W.excIn K C bmVE "ValueError.__new__" = true
/-! ### frames -/
theorem frames_mem {h b1 : Heap} : ∀ {l : List Env} {b : Addr}, h.FunFrames b1 l → b ∈ frs l → ∃ o, h.get? b = some o ∧ b1.get? b = none ∧ ∀ vs, o.data ≠ Data.fields vs
  | [], b, _, hb => by simp [frs] at hb
  | env :: l, b, F, hb => by
    obtain ⟨_, ⟨L, o, e1, e2, e3, e4⟩, F'⟩ := F
    have hb' : b = L ∨ b ∈ frs l := by
      unfold frs at hb ⊢
      rw [List.filterMap_cons_some e1] at hb
      exact List.mem_cons.mp hb
    rcases hb' with rfl | hb'
    · exact ⟨o, e3, e2, e4⟩
    · exact frames_mem F' hb'
theorem frames_hid {h b1 : Heap} {as : List Addr} : ∀ {l : List Env}, h.FunFrames b1 l → (∀ b ∈ frs l, b ∈ as) → h.FunFrames (PySem.W.hideAll h as) l
  | [], _, _ => trivial
  | env :: l, F, hs => by
    obtain ⟨k, ⟨L, o, e1, e2, e3, e4⟩, F'⟩ := F
    have em : frs (env :: l) = L :: frs l := by unfold frs; rw [List.filterMap_cons_some e1]
    rw [em] at hs
    exact ⟨k, ⟨L, o, e1, PySem.W.hideAll_none as (hs L List.mem_cons_self), e3, e4⟩, frames_hid F' fun b hb => hs b (List.mem_cons_of_mem _ hb)⟩
theorem ObjOk.there {H : Hp} {h : Heap} {a : Addr} {o : HO} (x : ObjOk P w H h a o) : ∃ ob, h.get? a = some ob := by
  cases o with
  | lst xs => obtain ⟨_, _, _, _, e⟩ := x; exact ⟨_, e⟩
  | tup xs => obtain ⟨_, _, _, _, e, _⟩ := x; exact ⟨_, e⟩
  | dK kvs => obtain ⟨_, _, _, _, o, _, _, e, _⟩ := x; exact ⟨_, e⟩
  | dT kvs => obtain ⟨_, _, _, _, o, _, _, e, _⟩ := x; exact ⟨_, e⟩
  | set S n => obtain ⟨o, _, _, _, e, _⟩ := x; exact ⟨_, e⟩
  | ins C dx fs => obtain ⟨_, _, _, e, _⟩ := x; exact ⟨_, e⟩
  | own y => obtain ⟨_, e⟩ := x; exact ⟨_, e⟩
  | xd fs => obtain ⟨_, ⟨_, _, _, e, _⟩, _⟩ := x; exact ⟨_, e⟩
  | rng lo hi => obtain ⟨_, _, _, e⟩ := x; exact ⟨_, e⟩
  | frz ob u => obtain ⟨e, _⟩ := x; exact ⟨_, e⟩
  | tbl ps => exact ⟨_, (show h.get? a = some _ from x)⟩
  | met f y => exact ⟨_, (show h.get? a = some _ from x)⟩
  | ext φ => obtain ⟨_, ⟨_, e⟩, _⟩ := x; exact ⟨_, e⟩

/-- an exception of the class at C, at e, flies: b1 the heap that stands still while it does -/
structure Fly (P : Program) (w : World) (outer : List Env) (H : Hp) (s : Shared) (H' : Hp) (b1 : Heap) (e C : Addr) (h : Heap) : Prop where
  fl : ∃ t, b1.FlyingW outer e (.ref C) t h
  un : Un (frs outer) [] H H' s.heap h
  hok : HOk P w H' h
  kb : ∀ b o, h.get? b = some o → (s.heap.get? b ≠ none ∨ H' b ≠ none) → b ∉ frs outer → b1.get? b = some o
  fr : ∀ b ∈ frs outer, H' b = none
  new : s.heap.get? e = none ∧ H' e = none
theorem Fly.step {outer : List Env} {H H' : Hp} {s : Shared} {b1 h h' : Heap} {e C : Addr} (F : Fly P w outer H s H' b1 e C h) (st : b1.StaysIn h') (fl : ∃ t, b1.FlyingW outer e (.ref C) t h') (u : h.UpToSlots h') : Fly P w outer H s H' b1 e C h' := by
  obtain ⟨t, _, _, ff, _⟩ := F.fl
  have thr : ∀ b, s.heap.get? b ≠ none → ∃ o, h.get? b = some o := fun b hb => by
    cases q : s.heap.get? b with
    | none => exact absurd q hb
    | some o => exact F.un.there b o q (by simp)
  have thr2 : ∀ b, H' b ≠ none → ∃ o, h.get? b = some o := fun b hb => by
    cases q : H' b with
    | none => exact absurd q hb
    | some o => exact (F.hok b o q).there
  have kp : ∀ b o, h.get? b = some o → (s.heap.get? b ≠ none ∨ H' b ≠ none) → b ∉ frs outer → h'.get? b = some o := fun b o q c n => st b o (F.kb b o q c n)
  refine ⟨fl, ⟨fun b o q n hb _ => ?_, fun b o q n hb _ => ?_, F.un.free, fun b o q _ => ?_, F.un.tups, F.un.frzs, F.un.tbls⟩, fun a o q => ?_, fun b o q c n => ?_, F.fr, F.new⟩
  · exact kp b o (F.un.keep b o q n hb (by simp)) (.inl (by rw [q]; simp)) hb
  · obtain ⟨sl, q1⟩ := F.un.slot b o q n hb (by simp)
    obtain ⟨o', e1, _, e3⟩ := frames_mem ff hb
    rw [q1] at e1; cases e1
    obtain ⟨sl', q2⟩ := u b _ q1 e3
    exact ⟨sl', q2⟩
  · obtain ⟨o', q1⟩ := F.un.there b o q (by simp)
    by_cases hb : b ∈ frs outer
    · obtain ⟨o2, e1, _, e3⟩ := frames_mem ff hb
      obtain ⟨sl', q2⟩ := u b _ e1 e3
      exact ⟨_, q2⟩
    · exact ⟨o', kp b o' q1 (.inl (by rw [q]; simp)) hb⟩
  · refine (F.hok a o q).stay (fun b u' hb q1 => ?_) (fun _ z => z) fun _ _ z => z
    have nn : H' b ≠ none := by
      rcases hb with rfl | hb
      · rw [q]; simp
      · rw [hb]; simp
    exact kp b u' q1 (.inr nn) fun z => nn (F.fr b z)
  · obtain ⟨o1, q1⟩ : ∃ o1, h.get? b = some o1 := by
      rcases c with c | c
      · exact thr b c
      · exact thr2 b c
    have q2 := kp b o1 q1 c n
    have e12 : o1 = o := Option.some.inj (q2.symm.trans q)
    rw [← e12]
    exact F.kb b o1 q1 c n
/-- how an exception of the text's own lies behind a call -/
noncomputable def CX1 (P : Program) (w : World) : CXT := fun outer H s E e s' => ∃ (a C : Addr) (H' : Hp) (b1 : Heap), e = .ref a ∧ s'.os = s.os ∧ AllBare s'.gens ∧ Fly P w outer H s H' b1 a C s'.heap ∧ E (.ref C) none H'
end

/-! ### raise C(..) -/
section
variable {X : Cx} {x : Str} {C : Addr} {np cpos pos : Pos} {e : Expr} {es : List Expr} {ta : TA}
theorem PS.nox {st : Stmt} {t : TS} (h : PS X.nox st t) : PS X st t := fun pins s σ H D I hw =>
  wpAny_mono (h pins s σ H D (I.wish _) hw) (fun _ _ q => q.unwish) fun _ _ z => z.elim
/-- what an exception that is made here must meet -/
noncomputable def Raises (X : Cx) (C : Addr) (R : Hp → Prop) : Prop := ∀ (pins : List (Addr × Obj)) (σ : St) (H : Hp) (s : Shared) (h' : Heap) (a : Addr) (vs : List Value), Inv X pins σ H s → s.heap.MadeExcOf h' a (.ref C) vs → R H → X.xe (.ref a) { s with heap := h' }
noncomputable def tRaise (ta : TA) (R : Hp → Prop) : TS := fun _ σ H => ta σ H fun vs H1 => vs.length ≤ sizeLine ∧ R H1
theorem ps_raise {R : Hp → Prop} (c : Ec X.K X.mg x C) (hg : Gl X x) (hc : X.calm = true) (hx : Raises X C R) (ha : PA X (e :: es) ta) (hdb : (x == ("__debug__" : Str)) = false := by decide)
    (he : starEach (e :: es) X.env = (false, eval e X.env) :: starEach es X.env := by rfl) (hpl : (backTo cpos (starEach (e :: es) X.env)).any (·.1) = false := by rfl)
    (hb : backTo cpos ((false, eval e X.env) :: starEach es X.env) = (false, eval e X.env) :: backTo cpos (starEach es X.env) := by rfl) :
    PS X (.Raise (some (.Call (.Name x np) (e :: es) [] cpos)) none pos) (tRaise ta R) := by
  intro pins s σ H D I h
  obtain ⟨bm, N, nm, q, bs, hdct, sn, sub, ab, col, dd, k0, k1, k2, k3, k5, mN, hC, hN, hi, hT⟩ := exc_obj I.ok.mod.kin c.own
  refine wpAny_Raise_call_subT (nm := nm) (q := q) (C := C) (N := N) (bs := bs) (bm := bm) (hdct := hdct) (sn := sn) (sub := sub) (ab := ab) (col := col) (dd := dd) (k0 := k0) (k1 := k1) (k2 := k2) (k3 := k3) (k5 := k5) (mN := mN)
    PySem.F.excBase_ValueError (hT.hasType rfl) (I.ok.hd hc) hpl hi ?_
  refine ld_glob I hg c.bound ⟨rfl, ?_⟩ hdb
  have hA := ha cpos pins s σ H _ I h
  rw [he] at hA ⊢
  refine Calls.evalArgs_plain (thn hA fun us s1 ⟨vs, H1, I1, r, hl, hR⟩ => ?_)
  exact ⟨rfl, by rw [← r.length]; exact hl, I1.bk _ _ hC, hN.keeps I1.bk, hT.keeps I1.bk, fun h' a m => hx pins σ H1 s1 h' a us I1 m hR⟩
end
section
variable {P : Program} {w : World} {K : PySem.W.Frag} {mg : Str → Option Value} {base : Heap}
/-- an exception that a def's body makes leaves it -/
theorem raises_of {N : List Str} {qual : Str} {scope : Scope} {f : Addr} {cd : Value} {A : Around} {outer : List Env} {s : Shared} {H : Hp} {E : XK} {C : Addr} :
    Raises (cxOf (CX1 P w) P w K mg base N qual scope f cd A outer s H E) C fun H' => E (.ref C) none H' := by
  intro pins σ H' s1 h1 a vs I m hE
  have ff := I.stack
  have hst : frs (envOfC qual scope s.heap.objs.size f cd :: outer) = s.heap.objs.size :: frs outer := rfl
  have nL : ∀ b o, s.heap.get? b = some o → b ≠ s.heap.objs.size := fun b o q z => Nat.lt_irrefl _ (z ▸ Heap.lt_size q)
  refine wpAny_leaves_madeW (outer := outer) (L := s.heap.objs.size) (base := PySem.W.hideAll s1.heap (s.heap.objs.size :: frs outer)) (h := s1.heap) I.ok.frames rfl (fun b o q => PySem.W.of_hideAll _ q)
    (frames_hid ff fun b hb => by rw [← hst]; exact hb) m fun h' t fl ht _ up => ?_
  have st := fl.1
  have kp : ∀ b o, s1.heap.get? b = some o → b ∉ s.heap.objs.size :: frs outer → h'.get? b = some o := fun b o q n => st b o (PySem.W.hideAll_get _ q n)
  have nf : ∀ b, H' b ≠ none → b ∉ s.heap.objs.size :: frs outer := fun b hb z => hb (I.stkFree b (by rw [← hst] at z; exact z))
  have u : Un (frs outer) [] H H' s.heap s1.heap := I.base
  refine ⟨a, C, H', _, rfl, I.os, I.bare, ⟨⟨_, fl⟩, ⟨fun b o q n hb _ => ?_, fun b o q n hb _ => ?_, u.free, fun b o q _ => ?_, u.tups, u.frzs, u.tbls⟩, fun b o q => ?_, fun b o q c n => ?_, fun b hb => I.stkFree b (List.mem_cons_of_mem _ hb), ?_, ?_⟩, hE⟩
  · exact kp b o (u.keep b o q n hb (by simp)) fun z => (List.mem_cons.mp z).elim (nL b o q) hb
  · obtain ⟨sl, q1⟩ := u.slot b o q n hb (by simp)
    obtain ⟨o', e1, _, e3⟩ := frames_mem ff (List.mem_cons_of_mem _ hb)
    rw [q1] at e1; cases e1
    obtain ⟨sl', q2⟩ := up b _ (m.keeps _ _ q1) e3
    exact ⟨sl', q2⟩
  · obtain ⟨o', q1⟩ := u.there b o q (by simp)
    by_cases hb : b ∈ frs outer
    · obtain ⟨o2, e1, _, e3⟩ := frames_mem ff (List.mem_cons_of_mem _ hb)
      obtain ⟨sl', q2⟩ := up b _ (m.keeps _ _ e1) e3
      exact ⟨_, q2⟩
    · exact ⟨o', kp b o' q1 fun z => (List.mem_cons.mp z).elim (nL b o q) hb⟩
  · refine (I.hok b o q).stay (fun c u' hc q1 => ?_) (fun _ z => z) fun _ _ z => z
    refine kp c u' q1 (nf c ?_)
    rcases hc with rfl | hc
    · rw [q]; simp
    · rw [hc]; simp
  · obtain ⟨o1, q1⟩ : ∃ o1, s1.heap.get? b = some o1 := by
      rcases c with c | c
      · cases q' : s.heap.get? b with
        | none => exact absurd q' c
        | some o => exact u.there b o q' (by simp)
      · cases q' : H' b with
        | none => exact absurd q' c
        | some o => exact (I.hok b o q').there
    have n' : b ∉ s.heap.objs.size :: frs outer := by
      rcases c with c | c
      · cases q' : s.heap.get? b with
        | none => exact absurd q' c
        | some o => exact fun z => (List.mem_cons.mp z).elim (nL b o q') n
      · exact nf b c
    have e12 : o1 = o := Option.some.inj ((kp b o1 q1 n').symm.trans q)
    rw [← e12]
    exact PySem.W.hideAll_get _ q1 n'
  · cases q' : s.heap.get? a with
    | none => rfl
    | some o =>
      obtain ⟨o', q1⟩ := u.there a o q' (by simp)
      rw [m.new] at q1; cases q1
  · cases q' : H' a with
    | none => rfl
    | some o =>
      obtain ⟨o', q1⟩ := (I.hok a o q').there
      rw [m.new] at q1; cases q1
end

/-! ### a def that raises -/
structure Kx (P : Program) (w : World) (K : PySem.W.Frag) (mg : Str → Option Value) (base : Heap) (x : Str) (k : Nat) (ps : List Str) (sp : Sp) : Prop where
  ex : ∃ (f : Addr) (fd : FuncData), FnOk P w K mg base (CX1 P w) k f fd ps sp ∧ mg x = some (.ref f) ∧ PySem.W.keepIn K (.ref f) = true ∧ Binds K fd ps []
section
variable {P : Program} {w : World} {K : PySem.W.Frag} {mg : Str → Option Value} {base : Heap}
theorem Df.kx {x : Str} {st : Stmt} {N ps : List Str} {k : Nat} {sp : Sp} (D : Df K mg x ps st) (S : FnScope N ps (defScope st)) (len : ∀ vs H Q E, sp vs H Q E → vs.length = ps.length)
    (hbody : ∀ (f : Addr) (cdv : Value) (A : Around) (outer : List Env) (s : Shared) (H : Hp) (vs : List V) (Q : VK) (E : XK), Room k (A.deeper (envOfC x (defScope st) s.heap.objs.size f cdv)) → sp vs H Q E →
      ∃ t, PSs (cxOf (CX1 P w) P w K mg base N x (defScope st) f cdv A outer s H E) (defBody st) t ∧ t { nx := fun _ H' => Q .non H', rt := Q } (start N vs) H) : Kx P w K mg base x (k + 1) ps sp := by
  obtain ⟨f, fd, F, hm, hb⟩ := D.ex
  have F' := F
  obtain ⟨oc, od, kV, doc, pm, an, cdv, ct, osl, rfl, lk, hcd⟩ := F.ex
  exact ⟨f, _, fn_of lk hcd S len fun A outer s H vs Q E hr hsp => hbody f cdv A outer s H vs Q E hr hsp, hm, F'.kp, hb⟩
end

/-! ### try: x = f(..) except C: suite -/
noncomputable abbrev Cx.marked (X : Cx) (v : Option Value) : Cx := { X with A := X.A.mark v, calm := false, xe := fun _ _ => False }
section
variable {X : Cx} {pins : List (Addr × Obj)} {σ : St} {H H' : Hp} {s s' : Shared} {b1 : Heap} {a C : Addr} {v : Option Value}
theorem Inv.mark (I : Inv X pins σ H s) : Inv (X.marked v) pins σ H s :=
  ⟨⟨I.ok.mod, I.ok.kind, I.ok.glob, I.ok.blt, I.ok.above, I.ok.inj, I.ok.has, I.ok.cab, (fun z => nomatch z), I.ok.frames, I.ok.stk, I.ok.exf, I.ok.bs, I.ok.bsz, I.ok.noex, I.ok.exfs, I.ok.funs, I.ok.frf⟩,
    I.os, I.bare, I.base, I.loc, I.cell, I.free, I.freeC, I.pin, I.hok, I.len⟩
theorem Inv.unmark (ok : X.Ok) (I : Inv (X.marked v) pins σ H s) : Inv X pins σ H s := ⟨ok, I.os, I.bare, I.base, I.loc, I.cell, I.free, I.freeC, I.pin, I.hok, I.len⟩
theorem Fly.inv (F : Fly X.prog X.w X.stack H s H' b1 a C s'.heap) (I : Inv X pins σ H s) (ho : s'.os = s.os) (hg : AllBare s'.gens) : Inv X pins σ H' s' :=
  I.call' (ch := []) ho F.un F.hok hg fun b z => absurd z (by simp)
end
end L2

namespace La
open Lean.Grind Nm
end La

namespace L2
open PySem PySem.Spec PyProof.Rows Nm
/-! ### joined machines -/
end L2

namespace La
open Lean.Grind Nm
end La

namespace L2
open PySem PySem.Spec PyProof.Rows Nm La Lean.Grind
/-! ### lists of marks -/
end L2

namespace La
open Lean.Grind Nm
end La

namespace La
open Lean.Grind Nm
end La

namespace La
open Lean.Grind Nm
end La

namespace La
open Lean.Grind Nm
end La

namespace L2
open PySem PySem.Spec PyProof.Rows Nm La Lean.Grind
/-! ### data told apart -/
theorem cutTo {xs : List V} (N : Nat) : cutV xs none (some (N : Int)) = xs.take N := by
  unfold cutV
  rw [HT.sIx_none, Nat.sub_zero, List.drop_zero, HT.sIx_nat]
  rcases Nat.lt_or_ge N xs.length with h | h
  · rw [Nat.min_eq_left (by (first | lia | omega))]
  · rw [Nat.min_eq_right (by (first | lia | omega)), List.take_of_length_le (Nat.le_refl _), List.take_of_length_le h]
/-! ### runs: sums -/
end L2

set_option maxHeartbeats 2000000
namespace L2
open PySem PySem.Spec PyProof.Rows
/-! ### what kind of thing an exception of the text's own is -/
/-- what the fragment tells of a class below BaseException, for `__class__` -/
structure Ek (K : PySem.W.Frag) (C : Addr) : Prop where
  ga : PySem.W.findIn K (.ref C) "__getattribute__" = some (some (.builtin "BaseException.__getattribute__"))
  gh : PySem.W.findIn K (.ref C) "__getattr__" = some none
  cl : PySem.W.findIn K (.ref C) "__class__" = some (some (.builtin "object.__class__"))
  gt : PySem.W.specialIn K (.builtin "object.__class__") "__get__" = some (some (.builtin "getset_descriptor.__get__"))
  tk : PySem.W.takesIn K (.builtin "object.__class__") = some true
  mB : PySem.W.mroIn K C (.type "BaseException") = some true
  mO : PySem.W.mroIn K C (.type "object") = some true
noncomputable def ExAt (a C : Addr) (h : Heap) : Prop := ∃ o, h.get? a = some o ∧ o.cls = .ref C
section
variable {prog : Program} {w : World} {A : Around} {E : Value → Shared → Prop} {s : Shared} {K : PySem.W.Frag} {x C : Addr}
theorem ExAt.type {M : Model} {h : Heap} (I : ExAt x C h) : PySem.W.Looks M h (typeOf (.ref x)) (.ref C) := by
  obtain ⟨o, h1, h2⟩ := I
  exact h2 ▸ (PySem.W.Looks.ld h1).andThen .now
open PySem.W PySem.Builtin.ObjectAttr in
theorem exc_find {M : Model} {h : Heap} (X : K.In h) (k : Ek K C) : Looks M h (find (.ref x) (.ref C) "__class__") (.bind (.builtin "getset_descriptor.__get__") (.builtin "object.__class__")) := by
  have a3 := looks_takesIn (M := M) X k.tk
  unfold find
  refine (looks_findIn X k.cl).andThen ((looks_specialIn X k.gt).andThen ?_)
  refine Looks.andThen (a := some (Value.builtin "getset_descriptor.__get__", Value.builtin "object.__class__")) (a3.andThen .now) ?_
  exact Looks.tag .now
open PySem.W in
theorem exc_get {tp : Value} {R : Result → Shared → Prop} (X : K.In s.heap) (I : ExAt x C s.heap) (k : Ek K C) (h : R (.ok (.ret (.ref C))) s) : codeAny (model prog w) A (.call (.builtin "getset_descriptor.__get__") ⟨[.builtin "object.__class__", .ref x, tp], []⟩) R s := by
  obtain ⟨hh, g, d, t, os⟩ := s
  have a0 := I.type (M := model prog w)
  have a5 := looks_mroIn (M := model prog w) X k.mO
  refine codeAny_call_builtin KF.slot_gs.plain KF.entry_gs (KF.slot_gs.check _ _ _ _ (.builtin "object.__class__") [.ref x, tp] [] _ KF.type_class (KF.args_gs _ _ tp) ?_)
  have d1 := dga_obj (.builtin "object.__class__") tp x
  simp only [Builtin.«getset_descriptor.__get__», PySem.Builtin.Getset_descriptor.descrGet, d1]
  refine wpAny_bind (wpAny_pure ?_)
  simp only [PySem.Builtin.Getset_descriptor.descrGetter, PySem.Builtin.Getset_descriptor.descrCheckInstance, PySem.Builtin.Getset_descriptor.descrNameAndClass, isInstance, KF.owner_class]
  repeat lk
  refine And.intro (Code.quiet_builtin _ (by decide +kernel)) (codeAny_builtin KF.entry_class ?_)
  simp only [Builtin.«object.__class__», shownTypeOf]
  repeat lk
  exact h
open PySem.W PySem.Builtin.ObjectAttr in
theorem exc_cls {Q : Option Value → Shared → Prop} (X : K.In s.heap) (I : ExAt x C s.heap) (k : Ek K C) (h : Q (some (.ref C)) { s with toks := s.toks + 1 }) : wpAny (model prog w) A (getAttr? (.ref x) "__class__") Q E s := by
  obtain ⟨hh, g, d, t, os⟩ := s
  have a0 := I.type (M := model prog w)
  have a1 := looks_findIn (M := model prog w) X k.ga
  have a2 := looks_findIn (M := model prog w) X k.gh
  have a3 := exc_find (M := model prog w) (x := x) X k
  have a4 := looks_mroIn (M := model prog w) X k.mB
  have a5 := looks_mroIn (M := model prog w) X k.mO
  unfold getAttr? getAttrBy? getAttrBy
  refine wpAny_bind (wpAny_mkText (wpAny_bind (wpAny_attempt (wpAny_holding (wpAny_bind (a0.at (wpAny_bind (a1.at ?_))))))))
  have e1 : (onTheHeap (Value.ref C) && Value.builtin "BaseException.__getattribute__" == Value.builtin "object.__getattribute__") = false := by
    rw [show (Value.builtin "BaseException.__getattribute__" == Value.builtin "object.__getattribute__") = false from by decide +kernel]; rfl
  dsimp only
  rw [if_neg (by rw [e1]; decide)]
  unfold getAttrByItsOwn hookBefore
  refine wpAny_bind ?_
  rw [if_pos (show onTheHeap (Value.ref C) = true from rfl)]
  refine a2.at (wpAny_bind (wpAny_attempt (wpAny_holding ?_)))
  unfold callGetattribute boundAndCalled
  rw [if_neg (by decide), PySem.F.attr_ValueError.ga.bind]
  refine wpAny_bind (wpAny_pure ?_)
  dsimp only [List.cons_append, List.nil_append]
  refine wpAny_call (codeAny_call_builtin PySem.F.attr_ValueError.ga.plain PySem.F.entry_bexc_ga ?_)
  have a6 : Looks (model prog w) hh (isInstance (.ref x) (.type "BaseException")) true := a0.andThen a4
  simp only [checkBuiltinCall, show builtinKind "BaseException.__getattribute__" = some .slot by decide +kernel, show splitId "BaseException.__getattribute__" = some ("BaseException", "__getattribute__") by decide +kernel]
  refine wpAny_bind (a6.at ?_)
  simp only [Bool.not_true, Bool.false_eq_true, if_false]
  have a7 := PySem.F.args_bexc_ga (.ref x) (.str "__class__" t)
  unfold argsOk at a7
  have a8 : ∀ m : Sem Unit, m = pure () → wpAny (model prog w) A.in1 m (fun _ s₁ => wpAny (model prog w) A.in1 (Builtin.«object.__getattribute__» ⟨[.ref x, .str "__class__" t], []⟩) (fun fin s' => match fin with
      | .done (.ret v) => v = .ref C ∧ s' = { heap := hh, gens := g, drawn := d, toks := t + 1, os := os }
      | _ => False) (fun _ _ => False) s₁) (fun _ _ => False) { heap := hh, gens := g, drawn := d, toks := t + 1, os := os } := fun m hm => by
    rw [hm]
    refine wpAny_pure ?_
    unfold Builtin.«object.__getattribute__»
    iterate 14 lk
    refine wpAny_bind (a0.at (wpAny_bind (a3.at ?_)))
    refine wpAny_bind (wpAny_holding (wpAny_call (exc_get X I k (wpAny_pure ⟨rfl, rfl⟩))))
  refine wpAny_mono (a8 _ ?_) (fun _ s1 z => wpAny_mono z (fun fin s' z' => ?_) fun _ _ z => z.elim) fun _ _ z => z.elim
  · split
    · rename_i sig hs
      rw [hs] at a7
      exact a7
    · rfl
  · rcases fin with (_ | _ | _ | v) | _
    all_goals first | exact z'.elim | skip
    obtain ⟨rfl, rfl⟩ := z'
    exact wpAny_pure (wpAny_pure h)
open PySem.W in
theorem looks_isType {M : Model} {h : Heap} {b : Value} {r : Bool} (X : K.In h) (e : mroIn K C b = some r) : Looks M h (isType (.ref C)) true := by
  obtain ⟨cd, hc, _⟩ := Option.bind_eq_some_iff.mp e
  unfold clsIn at hc
  split at hc
  · rename_i ho
    intro A' Q' E' s' k q
    unfold isType loadHead
    exact wpAny_bind (wpAny_loadPart (k _ _ (X _ _ ho)) (wpAny_pure q))
  · cases hc
open PySem.W in
theorem kitx_exc (k : Ek K C) : KitX K (.ref x) (.ref C) (ExAt x C) where
  ty := fun M h _ p => p.type
  it := fun M h X _ => looks_isType X k.mO
  ne := fun h tp dd its n sl X ht => by
    refine Bool.eq_false_iff.mpr fun q => ?_
    cases beq_iff_eq.mp q
    obtain ⟨cd, hc, _⟩ := Option.bind_eq_some_iff.mp k.mO
    unfold clsIn at hc
    split at hc
    · rename_i ho
      have := X _ _ ho
      rw [ht] at this
      cases this
    · cases hc
  ca := fun X p q => exc_cls X p k q
end
/-- a base of the class, of the text's own -/
structure Eb (K : PySem.W.Frag) (B C : Addr) : Prop where
  ty : PySem.W.typeIn K (.ref B) = some (.type "type")
  mB : PySem.W.mroIn K B (.type "BaseException") = some true
  sub : PySem.W.mroIn K C (.ref B) = some true
section
variable {prog : Program} {w : World} {A : Around} {E : Value → Shared → Prop} {s : Shared} {K : PySem.W.Frag} {x B C : Addr}
open PySem.W in
theorem exc_matches {Q : Bool → Shared → Prop} (X : K.In s.heap) (I : ExAt x C s.heap) (b : Eb K B C) (h : Q true s) : wpAny (model prog w) A (excMatches (.ref x) (.ref B)) Q E s := by
  obtain ⟨hh, g, d, t, os⟩ := s
  have a0 := I.type (M := model prog w)
  have a1 := looks_typeIn (M := model prog w) X b.ty
  have a2 := looks_mroIn (M := model prog w) X b.mB
  have a3 := looks_mroIn (M := model prog w) X b.sub
  have a4 := looks_isType (M := model prog w) X b.mB
  have a5 : Looks (model prog w) hh (isInstance (.ref B) (.type "tuple")) false := a1.andThen (Looks.of_pure tc_notTuple)
  have a6 : Looks (model prog w) hh (isExcClass (.ref B)) true := a4.andThen a2
  unfold excMatches
  refine wpAny_bind (a5.at ?_)
  repeat lk
  exact h
end
/-! ### except B as e -/
section
variable {X : Cx} {pins : List (Addr × Obj)} {σ : St} {H H' : Hp} {s s' : Shared} {b1 : Heap} {a C : Addr}
/-- a local name is taken away -/
theorem goes_ok {M : Model} {A : Around} {E : Value → Shared → Prop} {i : Nat} {y : Str} {pos : Pos} {Q : Unit → Shared → Prop} (I : Inv X pins σ H s) (hN : X.N.Nodup) (hi : X.N[i]? = some y) (hk : X.env.scope.names.lookup y = some .local)
    (h : ∀ s', Inv X pins (σ.set i none) H s' → Q () s') : wpAny M A (do bindName X.env y .none; unbindBehindTheSuite X.env y pos) Q E s := by
  have hp : (X.env.scope.kind == .class || (X.env.scope.kind == .module && X.env.locals != X.env.globals)) = false := by rw [I.ok.kind]; rfl
  have hl : X.env.kindOf y = some .local := hk
  have hiσ : i < σ.length := by rw [I.len]; exact (List.getElem?_eq_some_iff.mp hi).1
  refine wpAny_bind (wpAny_bindName (store_ok (v := .non) I hN hi (.inl hk) rfl (fun s1 I1 => ?_) (.inr hk)))
  unfold unbindBehindTheSuite unbindName
  refine wpAny_onRaise (wpAny_bind (wpAny_point (wpAny_bind ?_)))
  obtain ⟨m, hn, hm⟩ := id I1.loc
  have hy : m y = some Value.none := by
    obtain ⟨u, ru, q⟩ := hm i y .non hi (List.getElem?_set_self hiσ) (.inl hk)
    cases (show u = Value.none from ru)
    rcases q with ⟨_, e⟩ | ⟨k, _⟩
    · exact e
    · rw [hl] at k; rcases k with k | k <;> cases k
  unfold deleteName
  simp only [hl, hp]
  rw [if_neg (by decide)]
  refine wpAny_bind (wpAny_nsDel_keeps hn fun h2 v hn2 hs => ?_)
  rw [hy]
  have cne := I1.cne
  obtain ⟨oL, _, _, hoL, _⟩ := id hn
  have I2 : Inv X pins (σ.set i none) H { s1 with heap := h2 } := by
    have nb : ∀ b o, X.s₀.heap.get? b = some o → b ≠ X.env.locals := fun b o e => Nat.ne_of_lt (Nat.lt_of_lt_of_le (Heap.lt_size e) I1.ok.above)
    refine ⟨I1.ok, I1.os, I1.bare, ⟨fun b o e n hb hx => (hs.2 b (nb b o e)).trans (I1.base.keep b o e n hb hx), fun b o e n hb hx => ?_, I1.base.free, fun b o e hx => ?_, I1.base.tups, I1.base.frzs, I1.base.tbls⟩, ⟨_, hn2, fun j z v' e1 e2 e3 => ?_⟩, fun z c e => ?_, I1.free, I1.freeC, fun p hq => ?_, fun b ob e => ?_, by simpa using I1.len⟩
    · obtain ⟨sl, e1⟩ := I1.base.slot b o e n hb hx
      exact ⟨sl, (hs.2 b (nb b o e)).trans e1⟩
    · obtain ⟨o', e1⟩ := I1.base.there b o e hx
      exact ⟨o', (hs.2 b (nb b o e)).trans e1⟩
    · by_cases hj : j = i
      · rw [hj, List.getElem?_set_self hiσ] at e2
        cases e2
      · rw [List.getElem?_set_ne (Ne.symm hj)] at e2
        obtain ⟨u', r', q⟩ := hm j z v' e1 (by rw [List.getElem?_set_ne (Ne.symm hj)]; exact e2) e3
        refine ⟨u', r', ?_⟩
        rcases q with ⟨k, e⟩ | ⟨k, c, e, zz⟩
        · refine .inl ⟨k, ?_⟩
          have : z ≠ y := fun e => hj (nodup_ix hN e1 (e ▸ hi))
          simp [this, e]
        · exact .inr ⟨k, c, e, zz.sameBut hs (cne z c e)⟩
    · obtain ⟨w', zz⟩ := I1.cell z c e
      exact ⟨w', zz.sameBut hs (cne z c e)⟩
    · obtain ⟨e, n, ne, nf, d⟩ := I1.pin p hq
      exact ⟨(hs.2 p.1 ne).trans e, n, ne, nf, d⟩
    · refine (I1.hok b ob e).stay (fun c w' hc q => (hs.2 c ?_).trans q) (fun _ q => q) fun _ _ q => q
      rintro rfl
      have fr := I1.free
      rcases hc with rfl | hc
      · rw [fr] at e; cases e
      · rw [fr] at hc; cases hc
  simp only [if_true, Option.isSome_some, Bool.not_true, Bool.false_eq_true, if_false]
  exact wpAny_pure (wpAny_point (h _ I2))
/-- an object that came up in a call is known from here on -/
theorem Inv.know {φ : Heap → Prop} (I : Inv X pins σ H s) (J : Inv X pins σ H' s') (n0 : s.heap.get? a = none) (nH : H' a = none) (hex : X.ex = []) (new : ObjOk X.prog X.w (upd H' a (.ext φ)) s'.heap a (.ext φ)) : Inv X pins σ (upd H' a (.ext φ)) s' := by
  have na : ∀ b o, s.heap.get? b = some o → b ≠ a := fun b o e z => by rw [z, n0] at e; cases e
  have old : ∀ b, b ≠ a → upd H' a (.ext φ) b = H' b := fun b hb => upd_ne hb
  have nh : ∀ b o, H' b = some o → b ≠ a := fun b o e z => by rw [z, nH] at e; cases e
  have na0 : ∀ b o, X.s₀.heap.get? b = some o → b ≠ a := fun b o e => by
    obtain ⟨o', e'⟩ := I.base.there b o e (by rw [hex]; simp)
    exact na b o' e'
  refine ⟨J.ok, J.os, J.bare, ⟨J.base.keep, J.base.slot, fun b o e n hx => ?_, J.base.there, fun b xs e => ?_, fun b o u e => ?_, fun b ps e => ?_⟩, J.loc, J.cell, ?_, fun x c e => ?_, fun p hp => ?_, fun b o e => ?_, J.len⟩
  · rw [old b (na0 b o e)]; exact J.base.free b o e n hx
  · have := J.base.tups b xs e
    rw [old b (nh b _ this)]; exact this
  · have := J.base.frzs b o u e
    rw [old b (nh b _ this)]; exact this
  · obtain ⟨more, this⟩ := J.base.tbls b ps e
    exact ⟨more, by rw [old b (nh b _ this)]; exact this⟩
  · obtain ⟨m, hn, _⟩ := id I.loc
    obtain ⟨oL, _, _, hoL, _⟩ := hn
    rw [old _ (na _ _ hoL)]; exact J.free
  · obtain ⟨v, oc, hoc, _⟩ := I.cell x c e
    rw [old _ (na _ _ hoc)]; exact J.freeC x c e
  · obtain ⟨e0, _⟩ := I.pin p hp
    obtain ⟨e, n, ne, nf, d⟩ := J.pin p hp
    exact ⟨e, by rw [old _ (na _ _ e0)]; exact n, ne, nf, d⟩
  · by_cases hb : b = a
    · subst hb
      rw [upd_same] at e
      cases e
      exact new
    · rw [old b hb] at e
      exact (J.hok b o e).stay (fun _ _ _ q => q) (fun c q => by rw [old c (nh c _ q)]; exact q) fun c xs q => by rw [old c (nh c _ q)]; exact q
theorem ext_ok {P : Program} {w : World} {h : Heap} (e : ExAt a C h) : ObjOk P w H h a (.ext (ExAt a C)) := by
  obtain ⟨o, h1, h2⟩ := id e
  refine ⟨e, ⟨o, h1⟩, fun ha hb ⟨o', e1, e2⟩ k => ⟨o', k o' e1, e2⟩⟩
end
/-! ### isinstance of an exception of the text's own -/
section
variable {X : Cx}
noncomputable def rIsiE (K : PySem.W.Frag) : List V → Hp → VK → Prop := fun xs H Q => ∃ (a C : Addr) (c : V) (cv : Value) (b : Bool), xs = [.ref a, c] ∧ H a = some (.ext (ExAt a C)) ∧ Ek K C ∧ (∀ u, RelV c u → u = cv) ∧ PySem.W.kitOne K (.ref C) cv = some b ∧ Q (.bl b) H
theorem call_isiE : CallR X (.builtin "isinstance") (rIsiE X.K) := by
  intro pins s σ H xs us Q I r h
  obtain ⟨a, C, c, cv, b, rfl, ha, ek, hc, e, q⟩ := h
  obtain ⟨u, w', rfl, r1, r2⟩ := Vals.two r
  cases (show u = Value.ref a from r1)
  cases hc _ r2
  obtain ⟨p, _, _⟩ := (show ObjOk X.prog X.w H s.heap a (.ext (ExAt a C)) from I.hok a _ ha)
  exact PySem.W.kia_one (kitx_exc ek) I.kIn p e (fun z => nomatch z) fun tk => ⟨.bl b, H, I.tok tk, rfl, q⟩
theorem call_isiEK {K : PySem.W.Frag} (hK : X.K = K) : CallR X (.builtin "isinstance") (rIsiE K) := hK ▸ call_isiE
noncomputable def rIsiT (K : PySem.W.Frag) : List V → Hp → VK → Prop := fun xs H Q => ∃ (a C tp : Addr) (cs : List Addr) (b : Bool), xs = [.ref a, .ref tp] ∧ H a = some (.ext (ExAt a C)) ∧ Ek K C ∧ H tp = some (.tup (cs.map V.ref)) ∧ PySem.W.kitAny K (.ref C) (cs.map Value.ref) = some b ∧ Q (.bl b) H
theorem vals_refs : ∀ {cs : List Addr} {us : List Value}, Vals (cs.map V.ref) us → us = cs.map Value.ref
  | [], _, .nil => rfl
  | c :: cs, _, .cons r t => by rw [vals_refs t, show _ = Value.ref c from r]; rfl
theorem call_isiT : CallR X (.builtin "isinstance") (rIsiT X.K) := by
  intro pins s σ H xs us Q I r h
  obtain ⟨a, C, tp, cs, b, rfl, ha, ek, ht, e, q⟩ := h
  obtain ⟨u, w', rfl, r1, r2⟩ := Vals.two r
  cases (show u = Value.ref a from r1)
  cases (show w' = Value.ref tp from r2)
  obtain ⟨p, _, _⟩ := (show ObjOk X.prog X.w H s.heap a (.ext (ExAt a C)) from I.hok a _ ha)
  obtain ⟨_, its, rv, o, ho, hoc, n, hod⟩ := (show ObjOk X.prog X.w H s.heap tp (.tup (cs.map V.ref)) from I.hok tp _ ht)
  cases vals_refs rv
  obtain ⟨oc, dd, od, sl⟩ := o
  dsimp only at hoc hod
  subst hoc hod
  exact PySem.W.kia_tup (kitx_exc ek) I.kIn p ho e (fun z => nomatch z) fun tk => ⟨.bl b, H, I.tok tk, rfl, q⟩
theorem call_isiTK {K : PySem.W.Frag} (hK : X.K = K) : CallR X (.builtin "isinstance") (rIsiT K) := hK ▸ call_isiT
end
/-! ### the classes of a law that asks for refusals -/
end L2

namespace L2
open PySem PySem.Spec PyProof.Rows Nm Builtin Builtin.Str
section
variable {X : Cx}
/-! ### methods of strs -/
theorem mt_startswith : MtR X "str.startswith" (fun x vs H Q => ∃ a b, x = .str a ∧ vs = [.str b] ∧ Q (.bl (Txt.startswith a b)) H) := by
  intro pins s σ H x vs v us Q I rx rv h
  obtain ⟨a, b, rfl, rfl, q⟩ := h
  obtain ⟨t, rfl⟩ := rx
  obtain ⟨u, rfl, t2, rfl⟩ := vals1 rv
  exact SC.startswith ⟨.bl _, H, I, rfl, q⟩
theorem mt_zfill : MtR X "str.zfill" (fun x vs H Q => ∃ a i, x = .str a ∧ vs = [.int i] ∧ PadOk i = true ∧ Q (.str (Txt.zfill a i)) H) := by
  intro pins s σ H x vs v us Q I rx rv h
  obtain ⟨a, i, rfl, rfl, hp, q⟩ := h
  obtain ⟨t, rfl⟩ := rx
  obtain ⟨u, rfl, t2, rfl⟩ := vals1 rv
  exact SC.zfill hp fun t' k => ⟨.str _, H, I.tok _, ⟨_, rfl⟩, q⟩
theorem vals_strs : ∀ {xs : List Str} {us : List Value}, Vals (xs.map V.str) us → ∃ l, us = strValues l ∧ l.map (·.1) = xs
  | [], _, .nil => ⟨[], rfl, rfl⟩
  | x :: xs, _, .cons r t => by
    obtain ⟨tk, rfl⟩ := r
    obtain ⟨l, rfl, e⟩ := vals_strs (xs := xs) t
    exact ⟨(x, tk) :: l, rfl, by rw [List.map_cons, e]⟩
theorem strs_vals : ∀ (l : List (Str × Tok)), Vals ((l.map (·.1)).map V.str) (strValues l)
  | [] => .nil
  | p :: l => .cons ⟨p.2, rfl⟩ (strs_vals l)
theorem mt_join : MtR X "str.join" (fun x vs H Q => ∃ a l ys, x = .str a ∧ vs = [.ref l] ∧ SqL X.K H l (ys.map V.str) ∧ JoinOk a ys = true ∧ Q (.str (Txt.join a ys)) H) := by
  intro pins s σ H x vs v us Q I rx rv h
  obtain ⟨a, l, ys, rfl, rfl, hl, ok, q⟩ := h
  obtain ⟨t, rfl⟩ := rx
  obtain ⟨u, rfl, r1⟩ := vals1 rv
  cases (show u = Value.ref l from r1)
  obtain ⟨its, r, pl, z⟩ := I.list hl
  obtain ⟨m, rfl, e⟩ := vals_strs r
  exact SC.join pl.isList e ok fun t' k => ⟨.str _, H, I.tok _, ⟨_, rfl⟩, q⟩
/-- x.split(y): a new list -/
theorem mt_split : MtR X "str.split" (fun x vs H Q => ∃ a b, x = .str a ∧ vs = [.str b] ∧ b.length ≠ 0 ∧ a.length ≤ sizeLine ∧ (partsBetween a (occurrences a b 0 a.length (a.length + 1)) b.length).length ≤ sizeLine ∧ (Txt.split a b).length ≤ sizeLine ∧ ∀ p, H p = none → Q (.ref p) (upd H p (.lst ((Txt.split a b).map V.str)))) := by
  intro pins s σ H x vs v us Q I rx rv h
  obtain ⟨a, b, rfl, rfl, hb, ha, hz2, hz, q⟩ := h
  obtain ⟨t, rfl⟩ := rx
  obtain ⟨u, rfl, t2, rfl⟩ := vals1 rv
  have hy : (b.length == 0) = false := by simpa using hb
  have fin : ∀ (l : List (Str × Tok)) (k : Nat), l.map (·.1) = Txt.split a b → EP X pins σ Q (.ref s.heap.objs.size) { s with toks := k, heap := s.heap.push { cls := .type "list", data := .seq (strValues l).toArray } } := fun l k e => by
    refine ⟨.ref s.heap.objs.size, _, I.laid (t' := k) (o := .lst ((Txt.split a b).map V.str)) (fun b ob q => Heap.get?_push_of_some _ q) (Nat.le_refl _) ?_, rfl, q _ (I.hok.fresh (Nat.le_refl _))⟩
    refine ⟨by rw [List.length_map]; exact hz, _, 0, ?_, Heap.get?_push_size _ rfl⟩
    rw [← e]; exact strs_vals l
  cases h1 : (decide (a.length < b.length) || decide (strKind a < strKind b))
  · cases hf : (occurrences a b 0 a.length (a.length + 1)).isEmpty
    · refine call_meets F.slot_str_split (typeIs_str _ _ _) F.entry_str_split (F.args_str_split_2 _ _) (meets_str_split_sep a b t t2 h1 hy hf ha hz2) ?_
      show wants _ _ _ { s with toks := _, heap := s.heap.push { cls := .type "list", data := .seq (strsFrom s.toks (partsBetween a (occurrences a b 0 a.length (a.length + 1)) b.length)).toArray } }
      rw [strsFrom_eq]
      exact fin _ _ ((numbered_texts _ _).trans ((if_neg (ne_true_of_eq_false h1)).trans (if_neg (ne_true_of_eq_false hf))).symm)
    · exact call_meets F.slot_str_split (typeIs_str _ _ _) F.entry_str_split (F.args_str_split_2 _ _) (meets_str_split_not_found a b t t2 h1 hy hf) (fin [(a, t)] _ ((if_neg (ne_true_of_eq_false h1)).trans (if_pos hf)).symm)
  · exact call_meets F.slot_str_split (typeIs_str _ _ _) F.entry_str_split (F.args_str_split_2 _ _) (meets_str_split_cannot_occur a b t t2 h1) (fin [(a, t)] _ (if_pos h1).symm)
/-- x.partition(y): a tuple of three -/
theorem mt_partition : MtR X "str.partition" (fun x vs H Q => ∃ a b, x = .str a ∧ vs = [.str b] ∧ b.length ≠ 0 ∧ a.length ≤ sizeLine ∧ ∀ p, H p = none → Q (.ref p) (upd H p (.tup [.str (Txt.partition a b).1, .str (Txt.partition a b).2.1, .str (Txt.partition a b).2.2]))) := by
  intro pins s σ H x vs v us Q I rx rv h
  obtain ⟨a, b, rfl, rfl, hb, ha, q⟩ := h
  obtain ⟨t, rfl⟩ := rx
  obtain ⟨u, rfl, t2, rfl⟩ := vals1 rv
  have hy : (b.length == 0) = false := by simpa using hb
  have fin : ∀ (t1 t2 t3 k : Nat) (p1 p2 p3 : Str), Txt.partition a b = (p1, p2, p3) → EP X pins σ Q (.ref s.heap.objs.size) { s with toks := k, heap := s.heap.push { cls := .type "tuple", data := .seq [.str p1 t1, .str p2 t2, .str p3 t3].toArray } } := fun t1 t2 t3 k p1 p2 p3 e => by
    rw [e] at q
    refine ⟨.ref s.heap.objs.size, _, I.laid (t' := k) (o := .tup [.str p1, .str p2, .str p3]) (fun b ob q => Heap.get?_push_of_some _ q) (Nat.le_refl _) ?_, rfl, q _ (I.hok.fresh (Nat.le_refl _))⟩
    exact ⟨(by show 3 ≤ sizeLine; decide), _, .cons ⟨_, rfl⟩ (.cons ⟨_, rfl⟩ (.cons ⟨_, rfl⟩ .nil)), IsTup.new _ _⟩
  refine call_meets F.slot_str_partition (typeIs_str _ _ _) F.entry_str_partition (F.args_str_partition_2 _ _) (meets_str_partition a b t t2 hy ha) ?_
  have fin' := fin
  unfold Txt.partition at fin'
  revert fin'
  cases occurrences a b 0 a.length 1 with
  | nil => intro fin'; exact fin' _ _ _ _ _ _ _ rfl
  | cons i r => intro fin'; exact fin' _ _ _ _ _ _ _ rfl
/-! ### int of a text -/
theorem call_int_text : CallR X (.type "int") (fun xs H Q => ∃ x n, xs = [.str x] ∧ PySem.intText? x = some n ∧ x.length ≤ 640 ∧ Q (.int n) H) := by
  intro pins s σ H xs us Q I r h
  obtain ⟨x, n, rfl, hn, hl, q⟩ := h
  obtain ⟨u, rfl, t, rfl⟩ := vals1 r
  exact PySem.W.KIN.call_text hn hl ⟨.int n, H, I.tok _, ⟨_, rfl⟩, q⟩
/-! ### slices of strs -/
theorem sl_str : SlR X (fun x lo hi H Q => ∃ a, x = .str a ∧ a.length ≤ sizeLine ∧ Q (.str (Txt.slice a lo hi)) H) := by
  intro pins s σ H x v vl vu lo hi sl Q I rx hs pl pu h
  obtain ⟨a, rfl, ha, q⟩ := h
  obtain ⟨t, rfl⟩ := rx
  refine ⟨"str", _, F.slot_str_getitem.lookup, typeIs_str _ _ _, ?_⟩
  obtain ⟨o, ho, hc, hd⟩ := hs
  cases pl with
  | none =>
    cases pu with
    | none => exact wpAny_getItem_str_slice (l := none) (u := none) (st := none) ⟨o, ho, hc, hd⟩ rfl (post_val_or_str ⟨Nat.le_trans (Txt.slice_le a _ _) ha, fun t' k => ⟨.str _, H, I.tok _, ⟨_, rfl⟩, q⟩⟩)
    | int j uj => exact wpAny_getItem_str_slice (l := none) (u := some (j, uj)) (st := none) ⟨o, ho, hc, hd⟩ rfl (post_val_or_str ⟨Nat.le_trans (Txt.slice_le a _ _) ha, fun t' k => ⟨.str _, H, I.tok _, ⟨_, rfl⟩, q⟩⟩)
  | int i ui =>
    cases pu with
    | none => exact wpAny_getItem_str_slice (l := some (i, ui)) (u := none) (st := none) ⟨o, ho, hc, hd⟩ rfl (post_val_or_str ⟨Nat.le_trans (Txt.slice_le a _ _) ha, fun t' k => ⟨.str _, H, I.tok _, ⟨_, rfl⟩, q⟩⟩)
    | int j uj => exact wpAny_getItem_str_slice (l := some (i, ui)) (u := some (j, uj)) (st := none) ⟨o, ho, hc, hd⟩ rfl (post_val_or_str ⟨Nat.le_trans (Txt.slice_le a _ _) ha, fun t' k => ⟨.str _, H, I.tok _, ⟨_, rfl⟩, q⟩⟩)
end
end L2

namespace L2
open PySem PySem.Spec PyProof.Rows Nm
/-! ### a str walked -/
noncomputable def Its (x : Str) : It := ⟨fun i _ => i < x.cps.size, fun i H v H' => H' = H ∧ ∃ c, x.cps[i]? = some c ∧ v = .str ⟨#[c]⟩, fun i _ => x.cps.size ≤ i⟩
noncomputable def StrIt (it : Addr) (x : Str) (t : Tok) (i : Nat) (h : Heap) : Prop := h.IsStrIter it "str_ascii_iterator" x t i ∨ h.IsStrIter it "str_iterator" x t i
theorem turn_str {P : Program} {w : World} {K : PySem.W.Frag} {tg : Expr} (x : Str) (t : Tok) (it : Addr) : Turn P w K tg (Its x) [it] it (fun i h => StrIt it x t i h) where
  mem := by simp
  obj := fun i h st b hb => by
    have e : b = it := by simpa using hb
    subst e
    rcases st with ⟨o, e, c, d⟩ | ⟨o, e, c, d⟩ <;> exact ⟨o, e, fun v z => by rw [d] at z; cases z⟩
  keep := fun i h h' st k => by
    rcases st with ⟨o, e, c, d⟩ | ⟨o, e, c, d⟩
    · exact .inl ⟨o, k it (by simp) o e, c, d⟩
    · exact .inr ⟨o, k it (by simp) o e, c, d⟩
  item := by
    intro X hP hw hK hc i pins s σ H E I hf st hg
    subst hP hw hK
    have hi : i < x.cps.size := hg
    obtain ⟨f0, f1, f2, f3, f4, f5⟩ := hf it (by simp)
    rcases st with st | st
    · refine wpAny_pyNext_ascii_item st (c := x.cps[i]) (by simp [hi]) fun h' st' sb => ?_
      have I1 : Inv X pins σ H { s with heap := h', toks := s.toks + 1 } := I.turned (fun b o hb e => sb.extBut b o hb e) f0 f1 f3 f4 f5
      obtain ⟨o, e, c, d⟩ := id st'
      exact ⟨_, rfl, go_of (s := { s with heap := h', toks := s.toks + 1 }) e c d (by decide) ⟨.str ⟨#[x.cps[i]]⟩, H, I1, ⟨_, rfl⟩, ⟨rfl, _, by simp [hi], rfl⟩, .inl st', fun b hb => (hf b hb).1⟩⟩
    · refine wpAny_pyNext_wide_item st (c := x.cps[i]) (by simp [hi]) fun h' st' sb => ?_
      have I1 : Inv X pins σ H { s with heap := h', toks := s.toks + 1 } := I.turned (fun b o hb e => sb.extBut b o hb e) f0 f1 f3 f4 f5
      obtain ⟨o, e, c, d⟩ := id st'
      exact ⟨_, rfl, go_of (s := { s with heap := h', toks := s.toks + 1 }) e c d (by decide) ⟨.str ⟨#[x.cps[i]]⟩, H, I1, ⟨_, rfl⟩, ⟨rfl, _, by simp [hi], rfl⟩, .inr st', fun b hb => (hf b hb).1⟩⟩
  done := by
    intro X hP hw hK hc i pins s σ H E I hf st hg
    subst hP hw hK
    have hi : x.cps.size ≤ i := hg
    obtain ⟨f0, f1, f2, f3, f4, f5⟩ := hf it (by simp)
    rcases st with st | st
    · exact wpAny_pyNext_ascii_end (I.ok.hd hc) st (by simpa using hi) fun h' eb => ⟨rfl, I.turned (t' := s.toks) (fun b o hb e => eb b o hb e) f0 f1 f3 f4 f5⟩
    · exact wpAny_pyNext_wide_end (I.ok.hd hc) st (by simpa using hi) fun h' eb => ⟨rfl, I.turned (t' := s.toks) (fun b o hb e => eb b o hb e) f0 f1 f3 f4 f5⟩
  self := fun _ _ _ _ _ st h => by
    rcases st with st | st
    · exact wpAny_pyIter_striter_ascii st h
    · exact wpAny_pyIter_striter_wide st h
section
variable {X : Cx} {tg : Expr}
noncomputable def iStr (tl : TE) : TI := fun σ H R => tl σ H fun x H1 => ∃ a, x = .str a ∧ R (Its a) H1
theorem pi_str {l : Expr} {tl : TE} (hl : PE X l tl) : PI X tg l (iStr tl) := by
  intro pins s σ H R I h
  refine thn (hl pins s σ H _ I h) fun v s1 ⟨x, H1, I1, r1, q1⟩ => ?_
  obtain ⟨a, e, q⟩ := q1
  subst e
  obtain ⟨t, rfl⟩ := r1
  have fin : ∀ o : Obj, StrIt s1.heap.objs.size a t 0 (s1.heap.push o) → PIE X pins σ tg R (.ref s1.heap.objs.size) { s1 with heap := s1.heap.push o } := fun o st => by
    refine ⟨s1.heap.objs.size, [s1.heap.objs.size], _, _, H1, rfl, I1.kept (t' := s1.toks) fun b o e => Heap.get?_push_of_some _ e, turn_str a t _, st, fun b hb => ?_, q⟩
    have e : b = s1.heap.objs.size := by simpa using hb
    subst e
    exact I1.fpOk (Nat.le_refl _) (I1.hok.fresh (Nat.le_refl _))
  cases ha : a.cps.all (· < 128)
  · exact wpAny_pyIter_wide ha (fin _ (.inr ⟨_, Heap.get?_push_size _ rfl, rfl, rfl⟩))
  · exact wpAny_pyIter_ascii ha (fin _ (.inl ⟨_, Heap.get?_push_size _ rfl, rfl, rfl⟩))
end
section
variable {K : PySem.W.Frag} {g : TG} {tt : TT} {te : TE} {R : List V → Hp → Prop} {H : Hp} {σb : St}
theorem comp_str {x : Str} (J : Nat → List V → Hp → Prop) (h0 : J 0 [] H) (hl : ∀ (i : Nat) (ys : List V) (H' : Hp), i ≤ x.cps.size → J i ys H' → ys.length < sizeLine)
    (hs : ∀ (i c : Nat) (ys : List V) (H' : Hp), x.cps[i]? = some c → i < x.cps.size → J i ys H' → g (.str ⟨#[c]⟩) σb H' fun σ2 H2 => tt σ2 H2 fun b H3 => if b = true then te σ2 H3 fun y H4 => Nxt x.cps.size i (J (i + 1) (ys ++ [y]) H4) else Nxt x.cps.size i (J (i + 1) ys H3))
    (hd : ∀ (ys : List V) (H' : Hp), J x.cps.size ys H' → R ys H') :
    ∃ W : Nat → Nat → List V → Hp → Prop, (∃ m, W 0 m [] H) ∧ ∀ i m ys H, W i m ys H →
      ((Its x).stop i H ∧ ys.length ≤ sizeLine ∧ R ys H) ∨
      ((Its x).go i H ∧ ys.length < sizeLine ∧ ∀ v H', (Its x).yld i H v H' → g v σb H' fun σ2 H2 => tt σ2 H2 fun b H3 => if b = true then te σ2 H3 fun y H4 => ∃ m', m' < m ∧ W (i + 1) m' (ys ++ [y]) H4 else ∃ m', m' < m ∧ W (i + 1) m' ys H3) := by
  refine ⟨fun i m ys H => m = x.cps.size - i ∧ i ≤ x.cps.size ∧ J i ys H, ⟨x.cps.size, by simp, Nat.zero_le _, h0⟩, ?_⟩
  rintro i m ys H1 ⟨rfl, hi, j⟩
  have hz := hl i ys H1 hi j
  by_cases hlt : i < x.cps.size
  · refine .inr ⟨hlt, hz, fun v H' y => ?_⟩
    obtain ⟨e, c, hc, rfl⟩ := y
    subst e
    exact hs i c ys _ hc hlt j
  · have e : i = x.cps.size := by (first | lia | omega)
    subst e
    exact .inl ⟨Nat.le_refl _, Nat.le_of_lt hz, hd ys H1 j⟩
end
end L2

namespace L2
open PySem PySem.Spec PyProof.Rows Nm
section
variable {P : Program} {w : World} {K : PySem.W.Frag} {mg : Str → Option Value} {base : Heap}
/-- an exception that flies into a def's body leaves it -/
theorem passes_of {N : List Str} {qual : Str} {scope : Scope} {f : Addr} {cd : Value} {A : Around} {outer : List Env} {s : Shared} {H : Hp} {E : XK} :
    Passes (CX1 P w) (cxOf (CX1 P w) P w K mg base N qual scope f cd A outer s H E) E := by
  intro pins σ H1 s1 e s2 I h
  obtain ⟨a, C, H2, b1, rfl, ho, hg, F, hE⟩ := h
  have I2 := F.inv I ho hg
  have ff := I2.stack
  have hst : frs (envOfC qual scope s.heap.objs.size f cd :: outer) = s.heap.objs.size :: frs outer := rfl
  have nL : ∀ b o, s.heap.get? b = some o → b ≠ s.heap.objs.size := fun b o q z => Nat.lt_irrefl _ (z ▸ Heap.lt_size q)
  have u : Un (frs outer) [] H H2 s.heap s2.heap := I2.base
  have u1 : Un (frs outer) [] H H1 s.heap s1.heap := I.base
  obtain ⟨t, fl0⟩ := F.fl
  refine wpAny_leaves_onW (outer := outer) (L := s.heap.objs.size) (base := b1) I.ok.frames rfl fl0 fun h' fl up => ?_
  have st := fl.1
  have th1 : ∀ b, s.heap.get? b ≠ none → s1.heap.get? b ≠ none := fun b hb => by
    cases q' : s.heap.get? b with
    | none => exact absurd q' hb
    | some o =>
      obtain ⟨o', q1⟩ := u1.there b o q' (by simp)
      rw [q1]; simp
  have nf : ∀ b, H2 b ≠ none → b ∉ s.heap.objs.size :: frs outer := fun b hb z => hb (I2.stkFree b (by rw [← hst] at z; exact z))
  have kp : ∀ b o, s2.heap.get? b = some o → (s.heap.get? b ≠ none ∨ H2 b ≠ none) → b ∉ s.heap.objs.size :: frs outer → h'.get? b = some o := fun b o q c n =>
    st b o (F.kb b o q (c.imp (th1 b) id) n)
  refine ⟨a, C, H2, b1, rfl, ho.trans I.os, hg, ⟨⟨t, fl⟩, ⟨fun b o q n hb _ => ?_, fun b o q n hb _ => ?_, u.free, fun b o q _ => ?_, u.tups, u.frzs, u.tbls⟩, fun b o q => ?_, fun b o q c n => ?_, fun b hb => I2.stkFree b (List.mem_cons_of_mem _ hb), ?_, F.new.2⟩, hE⟩
  · exact kp b o (u.keep b o q n hb (by simp)) (.inl (by rw [q]; simp)) fun z => (List.mem_cons.mp z).elim (nL b o q) hb
  · obtain ⟨sl, q1⟩ := u.slot b o q n hb (by simp)
    obtain ⟨o', e1, _, e3⟩ := frames_mem ff (List.mem_cons_of_mem _ hb)
    rw [q1] at e1; cases e1
    obtain ⟨sl', q2⟩ := up b _ q1 e3
    exact ⟨sl', q2⟩
  · obtain ⟨o', q1⟩ := u.there b o q (by simp)
    by_cases hb : b ∈ frs outer
    · obtain ⟨o2, e1, _, e3⟩ := frames_mem ff (List.mem_cons_of_mem _ hb)
      obtain ⟨sl', q2⟩ := up b _ e1 e3
      exact ⟨_, q2⟩
    · exact ⟨o', kp b o' q1 (.inl (by rw [q]; simp)) fun z => (List.mem_cons.mp z).elim (nL b o q) hb⟩
  · refine (I2.hok b o q).stay (fun c u' hc q1 => ?_) (fun _ z => z) fun _ _ z => z
    have nn : H2 c ≠ none := by
      rcases hc with rfl | hc
      · rw [q]; simp
      · rw [hc]; simp
    exact kp c u' q1 (.inr nn) (nf c nn)
  · obtain ⟨o1, q1⟩ : ∃ o1, s2.heap.get? b = some o1 := by
      rcases c with c | c
      · cases q' : s.heap.get? b with
        | none => exact absurd q' c
        | some o => exact u.there b o q' (by simp)
      · cases q' : H2 b with
        | none => exact absurd q' c
        | some o => exact (I2.hok b o q').there
    have n' : b ∉ s.heap.objs.size :: frs outer := by
      rcases c with c | c
      · cases q' : s.heap.get? b with
        | none => exact absurd q' c
        | some o => exact fun z => (List.mem_cons.mp z).elim (nL b o q') n
      · exact nf b c
    have e12 : o1 = o := Option.some.inj ((kp b o1 q1 c n').symm.trans q)
    rw [← e12]
    exact F.kb b o1 q1 (c.imp (th1 b) id) n'
  · cases q' : s.heap.get? a with
    | none => rfl
    | some o => exact absurd F.new.1 (th1 a (by rw [q']; simp))
end
end L2

namespace Tx
open PySem PySem.NumText L2
/-! ### numbers as signs: decimals -/
noncomputable def dec (n : Nat) : List Nat := (Nat.toDigits 10 n).map Char.toNat
theorem dec_val (n : Nat) : digitsVal (dec n) = n := PySem.W.KIN.val_back n
theorem dec_ne (n : Nat) : dec n ≠ [] := fun e => by
  have h := toDigits_len_ge 10 n
  rw [List.map_eq_nil_iff.mp e] at h
  exact absurd h (by decide)
theorem dig_range {ch : Char} (h : ch.isDigit = true) : 48 ≤ ch.toNat ∧ ch.toNat ≤ 57 := by
  unfold Char.isDigit at h
  rw [Bool.and_eq_true, decide_eq_true_eq, decide_eq_true_eq] at h
  obtain ⟨h1, h2⟩ := h
  exact ⟨UInt32.le_iff_toNat_le.mp h1, UInt32.le_iff_toNat_le.mp h2⟩
theorem dec_all (n : Nat) : AllDigits (dec n) := fun c hc => by
  obtain ⟨ch, hch, e⟩ := List.mem_map.mp hc
  rw [← e]
  exact dig_range (Nat.isDigit_of_mem_toDigits (by decide) (by decide) hch)
theorem toNat_ofNat {c : Nat} (h : c ≤ 57) : (Char.ofNat c).toNat = c := by
  have : ∀ c : Nat, c ≤ 57 → (Char.ofNat c).toNat = c := by decide
  exact this c h
theorem dec_of {cs : List Nat} (h : AllDigits cs) (ne : cs ≠ []) (hl : cs.length = 1 ∨ cs.head? ≠ some 48) : cs = dec (digitsVal cs) := by
  have hn : cs.length = (cs.length - 1) + 1 := by
    have := List.length_pos_iff.mpr ne
    (first | lia | omega)
  have e := toDigits_digitsVal (cs.length - 1) cs hn h (by
    rcases hl with hl | hl
    · exact .inl (by (first | lia | omega))
    · cases cs with
      | nil => exact absurd rfl ne
      | cons c r =>
        have := h c List.mem_cons_self
        exact .inr ⟨c, r, rfl, by
          have : c ≠ 48 := fun z => hl (by rw [z]; rfl)
          (first | lia | omega)⟩)
  unfold dec
  rw [e, List.map_map]
  conv => lhs; rw [← List.map_id cs]
  exact List.map_congr_left fun c hc => (toNat_ofNat (h c hc).2).symm
theorem dec_lead {n : Nat} {r : List Nat} (e : dec n = 48 :: r) : r = [] := by
  have ha := dec_all n
  rw [e] at ha
  have hv : digitsVal (48 :: r) = n := by rw [← e]; exact dec_val n
  have t := toDigits_all (48 :: r) ha
  rw [hv] at t
  have hl : (dec n).length = r.length + 1 := by rw [e]; rfl
  unfold dec at hl
  rw [List.length_map, t, List.dropWhile_cons, if_pos (by decide)] at hl
  cases hd : r.dropWhile (· == 48) with
  | nil =>
    rw [hd] at hl
    have : (['0'] : List Char).length = r.length + 1 := hl
    exact List.length_eq_zero_iff.mp (by simpa using this.symm)
  | cons c s =>
    rw [hd] at hl
    have h1 : ((c :: s).map Char.ofNat).length = r.length + 1 := hl
    rw [List.length_map, ← hd] at h1
    have := len_dropWhile (· == 48) r
    (first | lia | omega)
/-! ### wholes read and shown -/
noncomputable def shI (i : Int) : List Nat := if i < 0 then 45 :: dec i.natAbs else dec i.natAbs
noncomputable def allD (cs : List Nat) : Bool := cs.all fun c => decide (48 ≤ c ∧ c ≤ 57)
theorem allD_iff (cs : List Nat) : allD cs = true ↔ AllDigits cs := by
  unfold allD
  rw [List.all_eq_true]
  exact ⟨fun h c hc => of_decide_eq_true (h c hc), fun h c hc => decide_eq_true (h c hc)⟩
/-- the program's reading of a whole -/
noncomputable def rdW (w : List Nat) : Option Int :=
  if w.head? = some 45 then (if (1 ≤ w.tail.length ∧ w.tail.length ≤ 20) ∧ allD w.tail = true then some (-(digitsVal w.tail : Int)) else none)
  else (if (1 ≤ w.length ∧ w.length ≤ 20) ∧ allD w = true then some (digitsVal w : Int) else none)
/-- the law's reading of figures -/
noncomputable def figW (w : List Nat) : Option Nat := if (w ≠ [] ∧ w.length ≤ 20 ∧ ¬ (w.head? = some 48 ∧ 1 < w.length)) ∧ allD w = true then some (digitsVal w) else none
theorem figW_iff {w : List Nat} {n : Nat} : figW w = some n ↔ w = dec n ∧ w.length ≤ 20 := by
  unfold figW
  constructor
  · intro h
    split at h
    · rename_i c
      obtain ⟨⟨ne, l, nz⟩, ad⟩ := c
      cases h
      refine ⟨dec_of ((allD_iff w).mp ad) ne ?_, l⟩
      by_cases h1 : w.length = 1
      · exact .inl h1
      · have := List.length_pos_iff.mpr ne
        exact .inr fun z => nz ⟨z, by (first | lia | omega)⟩
    · cases h
  · rintro ⟨rfl, l⟩
    have hz : ¬ ((dec n).head? = some 48 ∧ 1 < (dec n).length) := fun ⟨z, l1⟩ => by
      cases e : dec n with
      | nil => exact dec_ne n e
      | cons c r =>
        rw [e] at z l1
        have : c = 48 := by simpa using z
        rw [this] at e
        rw [dec_lead e] at l1
        exact absurd l1 (by simp)
    rw [if_pos ⟨⟨dec_ne n, l, hz⟩, (allD_iff _).mpr (dec_all n)⟩, dec_val]
theorem dec_head (n : Nat) : (dec n).head? ≠ some 45 := fun z => by
  have := dec_all n 45 (List.mem_of_mem_head? z)
  (first | lia | omega)
theorem rdW_sh {i : Int} (h : (dec i.natAbs).length ≤ 20) : rdW (shI i) = some i := by
  unfold rdW shI
  have l1 := List.length_pos_iff.mpr (dec_ne i.natAbs)
  by_cases c : i < 0
  · rw [if_pos c, if_pos (by rfl)]
    show (if (1 ≤ (dec i.natAbs).length ∧ (dec i.natAbs).length ≤ 20) ∧ allD (dec i.natAbs) = true then some (-(digitsVal (dec i.natAbs) : Int)) else none) = some i
    rw [if_pos ⟨⟨l1, h⟩, (allD_iff _).mpr (dec_all _)⟩, dec_val]
    exact congrArg some (by (first | lia | omega))
  · rw [if_neg c, if_neg (dec_head _), if_pos ⟨⟨l1, h⟩, (allD_iff _).mpr (dec_all _)⟩, dec_val]
    exact congrArg some (by (first | lia | omega))
theorem rdW_len {i : Int} {v : Int} (h : rdW (shI i) = some v) : (dec i.natAbs).length ≤ 20 ∧ v = i := by
  have l : (dec i.natAbs).length ≤ 20 := by
    unfold rdW shI at h
    by_cases c : i < 0
    · rw [if_pos c, if_pos (by rfl)] at h
      have h' : (if (1 ≤ (dec i.natAbs).length ∧ (dec i.natAbs).length ≤ 20) ∧ allD (dec i.natAbs) = true then some (-(digitsVal (dec i.natAbs) : Int)) else none) = some v := h
      split at h'
      · rename_i d; exact d.1.2
      · cases h'
    · rw [if_neg c, if_neg (dec_head _)] at h
      split at h
      · rename_i d; exact d.1.2
      · cases h
  refine ⟨l, ?_⟩
  rw [rdW_sh l] at h
  exact (Option.some.inj h).symm
/-! ### fractions -/
noncomputable def shQ (q : Rat) : List Nat := shI q.num ++ if q.den = 1 then [] else 47 :: dec q.den
noncomputable def headP (w : List Nat) : List Nat := w.takeWhile (· != 47)
noncomputable def restP (w : List Nat) : List Nat := w.dropWhile (· != 47)
theorem shI_free (i : Int) : ∀ c ∈ shI i, (c != 47) = true := fun c hc => by
  unfold shI at hc
  have hd : ∀ c ∈ dec i.natAbs, (c != 47) = true := fun c hc => by
    have := dec_all _ c hc
    have : c ≠ 47 := by (first | lia | omega)
    simpa using this
  split at hc
  · rcases List.mem_cons.mp hc with rfl | hc
    · decide
    · exact hd c hc
  · exact hd c hc
theorem head_app {a r : List Nat} (h : ∀ c ∈ a, (c != 47) = true) : headP (a ++ 47 :: r) = a ∧ restP (a ++ 47 :: r) = 47 :: r := by
  unfold headP restP
  constructor
  · rw [List.takeWhile_append_of_pos h]; simp
  · rw [List.dropWhile_append_of_pos h]; simp
theorem head_all {a : List Nat} (h : ∀ c ∈ a, (c != 47) = true) : headP a = a ∧ restP a = [] := by
  unfold headP restP
  constructor
  · have := List.takeWhile_append_of_pos (l₂ := []) h; simpa using this
  · have := List.dropWhile_append_of_pos (l₂ := []) h; simpa using this
theorem head_rest (w : List Nat) : headP w ++ restP w = w := List.takeWhile_append_dropWhile
theorem rest_cases (w : List Nat) : restP w = [] ∨ ∃ r, restP w = 47 :: r := by
  unfold restP
  cases e : w.dropWhile (· != 47) with
  | nil => exact .inl rfl
  | cons c r =>
    have := List.head?_dropWhile_not (· != 47) w
    rw [e] at this
    have h : c = 47 := by simpa using this
    exact .inr ⟨r, by rw [h]⟩
/-- the program's reading of a fraction, ahead of its form -/
noncomputable def rdF (w : List Nat) : Option Rat :=
  match (if restP w = [] then some 1 else rdW (restP w).tail) with
  | none => none
  | some b => if b < 1 then none else match rdW (headP w) with
    | none => none
    | some t => some (Rat.divInt t b)
noncomputable def rdQ (w : List Nat) : Option Rat := match rdF w with
  | none => none
  | some q => if shQ q = w then some q else none
/-- the law's reading of a fraction -/
noncomputable def tdQ (w : List Nat) : Option Rat :=
  let sg := decide ((headP w).head? = some 45)
  match figW (if sg then (headP w).tail else headP w) with
  | none => none
  | some t => if (t = 0 ∧ sg = true) ∨ 47 ∈ (restP w).tail then none else
    match (if restP w = [] then some 1 else figW (restP w).tail) with
    | none => none
    | some b => if restP w ≠ [] ∧ (b < 2 ∨ Nat.gcd t b ≠ 1) then none else some (Rat.divInt (if sg then -(t : Int) else t) (b : Int))
noncomputable def Good (q : Rat) : Prop := (dec q.num.natAbs).length ≤ 20 ∧ (q.den ≠ 1 → (dec q.den).length ≤ 20)
theorem rd_den {q : Rat} : rdW (dec q.den) = rdW (shI (q.den : Int)) := by
  unfold shI
  rw [if_neg (by (first | lia | omega))]; rfl
theorem sh_parts (q : Rat) : headP (shQ q) = shI q.num ∧ restP (shQ q) = if q.den = 1 then [] else 47 :: dec q.den := by
  unfold shQ
  by_cases c : q.den = 1
  · rw [if_pos c, List.append_nil]; exact head_all (shI_free _)
  · rw [if_neg c]; exact head_app (shI_free _)
theorem rdF_sh {q : Rat} (g : Good q) : rdF (shQ q) = some q := by
  unfold rdF
  rw [(sh_parts q).1, (sh_parts q).2]
  by_cases c : q.den = 1
  · rw [if_pos c, if_pos rfl]
    show (if (1 : Int) < 1 then none else match rdW (shI q.num) with | none => none | some t => some (Rat.divInt t 1)) = some q
    rw [if_neg (by decide), rdW_sh g.1]
    show some (Rat.divInt q.num 1) = some q
    have := Rat.num_divInt_den q
    rw [c] at this
    exact congrArg some this
  · rw [if_neg c, if_neg (by simp)]
    show (match rdW (dec q.den) with | none => none | some b => if b < 1 then none else match rdW (shI q.num) with | none => none | some t => some (Rat.divInt t b)) = some q
    rw [rd_den, rdW_sh (i := (q.den : Int)) (g.2 c), rdW_sh g.1]
    show (if (q.den : Int) < 1 then none else some (Rat.divInt q.num q.den)) = some q
    have d0 := q.den_pos
    rw [if_neg (by (first | lia | omega)), Rat.num_divInt_den]
theorem rdF_good {q : Rat} {x : Rat} (h : rdF (shQ q) = some x) : Good q := by
  unfold rdF at h
  rw [(sh_parts q).1, (sh_parts q).2] at h
  by_cases c : q.den = 1
  · rw [if_pos c, if_pos rfl] at h
    have h' : (if (1 : Int) < 1 then none else match rdW (shI q.num) with | none => none | some t => some (Rat.divInt t 1)) = some x := h
    rw [if_neg (by decide)] at h'
    cases e : rdW (shI q.num) with
    | none => rw [e] at h'; cases h'
    | some t => exact ⟨(rdW_len e).1, fun z => absurd c z⟩
  · rw [if_neg c, if_neg (by simp)] at h
    have h' : (match rdW (dec q.den) with | none => none | some b => if b < 1 then none else match rdW (shI q.num) with | none => none | some t => some (Rat.divInt t b)) = some x := h
    cases e : rdW (dec q.den) with
    | none => rw [e] at h'; cases h'
    | some b =>
      rw [e] at h'
      have h2 : (if b < 1 then none else match rdW (shI q.num) with | none => none | some t => some (Rat.divInt t b)) = some x := h'
      split at h2
      · cases h2
      · cases e2 : rdW (shI q.num) with
        | none => rw [e2] at h2; cases h2
        | some t =>
          rw [rd_den] at e
          exact ⟨(rdW_len e2).1, fun _ => (rdW_len e).1⟩
theorem rdQ_iff {w : List Nat} {q : Rat} : rdQ w = some q ↔ w = shQ q ∧ Good q := by
  unfold rdQ
  constructor
  · intro h
    cases e : rdF w with
    | none => rw [e] at h; cases h
    | some x =>
      rw [e] at h
      have h' : (if shQ x = w then some x else none) = some q := h
      split at h'
      · rename_i c
        cases h'
        rw [← c] at e
        exact ⟨c.symm, rdF_good e⟩
      · cases h'
  · rintro ⟨rfl, g⟩
    rw [rdF_sh g]
    show (if shQ q = shQ q then some q else none) = some q
    rw [if_pos rfl]
theorem shI_head (i : Int) : (shI i).head? = some 45 ↔ i < 0 := by
  unfold shI
  constructor
  · intro h
    split at h
    · assumption
    · exact absurd h (dec_head _)
  · intro h; rw [if_pos h]; rfl
theorem shI_fig (i : Int) : (if decide ((shI i).head? = some 45) = true then (shI i).tail else shI i) = dec i.natAbs := by
  by_cases c : i < 0
  · rw [if_pos (decide_eq_true ((shI_head i).mpr c))]
    unfold shI; rw [if_pos c]; rfl
  · rw [if_neg (by rw [decide_eq_true_eq]; exact fun h => c ((shI_head i).mp h))]
    unfold shI; rw [if_neg c]
theorem dec_free (n : Nat) : 47 ∉ dec n := fun h => by
  have := dec_all n 47 h
  (first | lia | omega)
theorem tdQ_of {q : Rat} (g : Good q) : tdQ (shQ q) = some q := by
  unfold tdQ
  rw [(sh_parts q).1, (sh_parts q).2]
  simp only []
  rw [shI_fig, figW_iff.mpr ⟨rfl, g.1⟩]
  simp only []
  have nz : ¬ (q.num.natAbs = 0 ∧ decide ((shI q.num).head? = some 45) = true) := fun ⟨h1, h2⟩ => by
    have := (shI_head q.num).mp (of_decide_eq_true h2)
    (first | lia | omega)
  have ei : (if decide ((shI q.num).head? = some 45) = true then -((q.num.natAbs : Nat) : Int) else ((q.num.natAbs : Nat) : Int)) = q.num := by
    by_cases c : q.num < 0
    · rw [if_pos (decide_eq_true ((shI_head q.num).mpr c))]; (first | lia | omega)
    · rw [if_neg (by rw [decide_eq_true_eq]; exact fun h => c ((shI_head q.num).mp h))]; (first | lia | omega)
  by_cases c : q.den = 1
  · rw [if_pos c, if_neg (fun h => h.elim nz (by simp)), if_pos rfl]
    simp only []
    rw [if_neg (fun h => h.1 rfl), ei]
    have := Rat.num_divInt_den q
    rw [c] at this
    exact congrArg some this
  · rw [if_neg c]
    have e1 : (47 :: dec q.den).tail = dec q.den := rfl
    rw [if_neg (fun h => h.elim nz (by rw [e1]; exact dec_free _)), if_neg (by simp), e1, figW_iff.mpr ⟨rfl, g.2 c⟩]
    simp only []
    have d0 := q.den_pos
    rw [if_neg (fun h => h.2.elim (fun h => by (first | lia | omega)) fun h => h q.reduced), ei, Rat.num_divInt_den]
theorem divInt_low {i : Int} {b : Nat} (hb : 0 < b) (hc : Nat.gcd i.natAbs b = 1) : (Rat.divInt i (b : Int)).num = i ∧ (Rat.divInt i (b : Int)).den = b := by
  have e : Rat.divInt i (b : Int) = ⟨i, b, Nat.ne_of_gt hb, hc⟩ := Rat.num_divInt_den ⟨i, b, Nat.ne_of_gt hb, hc⟩
  rw [e]
  exact ⟨rfl, rfl⟩
theorem tdQ_iff {w : List Nat} {q : Rat} : tdQ w = some q ↔ w = shQ q ∧ Good q := by
  constructor
  · intro h
    unfold tdQ at h
    simp only [] at h
    generalize hsg : decide ((headP w).head? = some 45) = sg at h
    cases ef : figW (if sg = true then (headP w).tail else headP w) with
    | none => rw [ef] at h; cases h
    | some t =>
      rw [ef] at h
      simp only [] at h
      obtain ⟨et, lt⟩ := figW_iff.mp ef
      split at h
      · cases h
      rename_i nz
      have nz1 : ¬ (t = 0 ∧ sg = true) := fun z => nz (.inl z)
      -- the head
      obtain ⟨i, ei, hi, ea⟩ : ∃ i : Int, (if sg = true then -(t : Int) else (t : Int)) = i ∧ headP w = shI i ∧ i.natAbs = t := by
        cases sg with
        | true =>
          have h45 := of_decide_eq_true hsg
          rw [if_pos rfl] at et
          have t0 : t ≠ 0 := fun z => nz1 ⟨z, rfl⟩
          refine ⟨-(t : Int), by rw [if_pos rfl], ?_, by (first | lia | omega)⟩
          unfold shI
          rw [if_pos (by (first | lia | omega)), show (-(t : Int)).natAbs = t by (first | lia | omega), ← et]
          cases hw : headP w with
          | nil => rw [hw] at h45; cases h45
          | cons c r =>
            rw [hw] at h45
            have : c = 45 := by simpa using h45
            rw [this]; rfl
        | false =>
          rw [if_neg (by decide)] at et
          refine ⟨(t : Int), by rw [if_neg (by decide)], ?_, by (first | lia | omega)⟩
          unfold shI
          rw [if_neg (by (first | lia | omega)), show ((t : Int)).natAbs = t by (first | lia | omega), ← et]
      rw [ei] at h
      have lt' : (dec t).length ≤ 20 := by rw [← et]; exact lt
      rcases rest_cases w with r0 | ⟨r, r1⟩
      · rw [r0, if_pos rfl] at h
        simp only [] at h
        rw [if_neg (fun z => z.1 rfl)] at h
        have eq := Option.some.inj h
        obtain ⟨e1, e2⟩ := divInt_low (i := i) (b := 1) (by decide) (Nat.gcd_one_right _)
        have eq' : Rat.divInt i ((1 : Nat) : Int) = q := eq
        rw [eq'] at e1 e2
        refine ⟨?_, by rw [e1, ea]; exact lt', fun z => absurd e2 z⟩
        have := head_rest w
        rw [r0, List.append_nil] at this
        unfold shQ
        rw [if_pos e2, List.append_nil, e1, ← hi]; exact this.symm
      · rw [r1, if_neg (by simp)] at h
        have e1 : (47 :: r).tail = r := rfl
        rw [e1] at h
        cases eb : figW r with
        | none => rw [eb] at h; cases h
        | some b =>
          rw [eb] at h
          simp only [] at h
          obtain ⟨er, lr⟩ := figW_iff.mp eb
          split at h
          · cases h
          rename_i nb
          have b2 : ¬ b < 2 := fun z => nb ⟨by simp, .inl z⟩
          have gc : Nat.gcd t b = 1 := Classical.byContradiction fun z => nb ⟨by simp, .inr z⟩
          have eq := Option.some.inj h
          obtain ⟨e2, e3⟩ := divInt_low (i := i) (b := b) (by (first | lia | omega)) (by rw [ea]; exact gc)
          rw [eq] at e2 e3
          refine ⟨?_, by rw [e2, ea]; exact lt', fun _ => by rw [e3, ← er]; exact lr⟩
          unfold shQ
          rw [if_neg (by (first | lia | omega)), e2, e3, ← hi, ← er]
          have := head_rest w
          rw [r1] at this
          exact this.symm
  · rintro ⟨rfl, g⟩
    exact tdQ_of g
/-- the program and the law read the same fractions -/
theorem rdQ_tdQ (w : List Nat) : rdQ w = tdQ w := by
  cases e : tdQ w with
  | some q => exact rdQ_iff.mpr (tdQ_iff.mp e)
  | none =>
    cases e' : rdQ w with
    | none => rfl
    | some q =>
      rw [tdQ_iff.mpr (rdQ_iff.mp e')] at e
      cases e
/-! ### rests -/
noncomputable def rdR (k : Nat) (w : List Nat) : Option Nat := match rdW w with
  | none => none
  | some v => if dec (v.fmod (k : Int)).toNat = w then some (v.fmod (k : Int)).toNat else none
noncomputable def tdR (k : Nat) (w : List Nat) : Option Nat := match figW w with
  | none => none
  | some m => if k ≤ m then none else some m
theorem rdR_tdR {k : Nat} (k0 : 0 < k) (hk : k < 100) (w : List Nat) : rdR k w = tdR k w := by
  have key : ∀ m, rdR k w = some m ↔ tdR k w = some m := fun m => by
    unfold rdR tdR
    constructor
    · intro h
      cases e : rdW w with
      | none => rw [e] at h; cases h
      | some v =>
        rw [e] at h
        simp only [] at h
        split at h
        · rename_i c
          have em := Option.some.inj h
          rw [em] at c
          have lm : m < k := by
            have h1 := Int.fmod_lt_of_pos v (show (0 : Int) < (k : Int) by (first | lia | omega))
            have h2 := Int.fmod_nonneg_of_pos v (show (0 : Int) < (k : Int) by (first | lia | omega))
            (first | lia | omega)
          have lw : w.length ≤ 20 := by
            rw [← c] at e ⊢
            have e2 : rdW (shI (m : Int)) = some v := by
              unfold shI
              rw [if_neg (by (first | lia | omega))]; exact e
            exact (rdW_len e2).1
          rw [figW_iff.mpr ⟨c.symm, lw⟩]
          simp only []
          rw [if_neg (by (first | lia | omega))]
        · cases h
    · intro h
      cases e : figW w with
      | none => rw [e] at h; cases h
      | some n =>
        rw [e] at h
        simp only [] at h
        split at h
        · cases h
        · rename_i c
          have em := Option.some.inj h
          subst em
          obtain ⟨ew, lw⟩ := figW_iff.mp e
          have e2 : rdW w = some (n : Int) := by
            have := rdW_sh (i := (n : Int)) (by show (dec n).length ≤ 20; rw [← ew]; exact lw)
            unfold shI at this
            rw [if_neg (by (first | lia | omega))] at this
            rw [ew]; exact this
          rw [e2]
          simp only []
          have ef : ((n : Int).fmod (k : Int)).toNat = n := by
            rw [Int.fmod_eq_emod_of_nonneg _ (by (first | lia | omega)), Int.emod_eq_of_lt (by (first | lia | omega)) (by (first | lia | omega))]; rfl
          rw [ef, if_pos ew.symm]
  cases e : tdR k w with
  | some m => exact (key m).mpr e
  | none =>
    cases e' : rdR k w with
    | none => rfl
    | some m => rw [(key m).mp e'] at e; cases e
end Tx

namespace Tx
open PySem PySem.NumText L2 Builtin Builtin.Str
theorem cut_at {l : List Nat} {i : Nat} (h : l[i]? = some 47) (hn : ∀ k, k < i → l[k]? ≠ some 47) : headP l = l.take i ∧ restP l = 47 :: l.drop (i + 1) := by
  have hi := (List.getElem?_eq_some_iff.mp h).1
  have e : l = l.take i ++ 47 :: l.drop (i + 1) := by
    have e1 : l.drop i = 47 :: l.drop (i + 1) := by
      rw [List.drop_eq_getElem_cons hi]
      rw [(List.getElem?_eq_some_iff.mp h).2]
    rw [← e1, List.take_append_drop]
  have free : ∀ c ∈ l.take i, (c != 47) = true := fun c hc => by
    obtain ⟨k, hk, ek⟩ := List.getElem_of_mem hc
    rw [List.length_take] at hk
    have h2 := hn k (by (first | lia | omega))
    rw [List.getElem_take] at ek
    rw [List.getElem?_eq_getElem (by (first | lia | omega)), ek] at h2
    have : c ≠ 47 := fun z => h2 (by rw [z])
    simpa using this
  have := head_app (a := l.take i) (r := l.drop (i + 1)) free
  rw [← e] at this
  exact this
theorem cut_none {l : List Nat} (hn : ∀ i : Nat, l[i]? ≠ some 47) : headP l = l ∧ restP l = [] := head_all fun c hc => by
  obtain ⟨k, hk, ek⟩ := List.getElem_of_mem hc
  have h2 := hn k
  rw [List.getElem?_eq_getElem hk, ek] at h2
  have : c ≠ 47 := fun z => h2 (by rw [z])
  simpa using this
/-- partition at a stroke -/
theorem part47 (x : Str) : (Txt.partition x ⟨#[47]⟩).1.cps.toList = headP x.cps.toList ∧ (restP x.cps.toList = [] → (Txt.partition x ⟨#[47]⟩).2.1 = Str.empty) ∧ (restP x.cps.toList ≠ [] → (Txt.partition x ⟨#[47]⟩).2.1 = ⟨#[47]⟩ ∧ (Txt.partition x ⟨#[47]⟩).2.2.cps.toList = (restP x.cps.toList).tail) := by
  have at_ : ∀ i, StrLaws.At x ⟨#[47]⟩ x.length i ↔ x.cps.toList[i]? = some 47 := fun i => StrLaws.subAt_one x 47 i
  unfold Txt.partition
  rcases StrLaws.occ_head x ⟨#[47]⟩ 1 (Nat.le_refl 1) with ⟨h0, hn⟩ | ⟨i, r, h0, hi, hn⟩
  · rw [h0]
    obtain ⟨e1, e2⟩ := cut_none (l := x.cps.toList) fun i z => hn i ((at_ i).mpr z)
    exact ⟨e1.symm, fun _ => rfl, fun z => absurd e2 z⟩
  · rw [h0]
    obtain ⟨e1, e2⟩ := cut_at ((at_ i).mp hi) fun k hk z => hn k hk ((at_ k).mpr z)
    refine ⟨?_, (fun z => by rw [e2] at z; cases z), fun _ => ⟨rfl, ?_⟩⟩
    · rw [e1]
      show (strSub x 0 i).cps.toList = _
      unfold strSub
      simp
    · rw [e2]
      show (strSub x (i + 1) x.length).cps.toList = x.cps.toList.drop (i + 1)
      unfold strSub
      simp [Str.length]
      exact List.take_of_length_le (by simp)
/-- split at strokes -/
noncomputable def joinL : List (List Nat) → List Nat
  | [] => []
  | [a] => a
  | a :: b :: r => a ++ 47 :: joinL (b :: r)
theorem join_list : ∀ ps : List Str, (Str.join ⟨#[47]⟩ ps).cps.toList = joinL (ps.map (·.cps.toList))
  | [] => rfl
  | [a] => rfl
  | a :: b :: r => by
    have ih := join_list (b :: r)
    show (a ++ (⟨#[47]⟩ : Str) ++ Str.join ⟨#[47]⟩ (b :: r)).cps.toList = a.cps.toList ++ 47 :: joinL ((b :: r).map (·.cps.toList))
    rw [← ih]
    show ((a.cps ++ #[47]) ++ (Str.join ⟨#[47]⟩ (b :: r)).cps).toList = _
    simp
theorem split47 (x : Str) : ∃ (a : List Nat) (L : List (List Nat)), (Txt.split x ⟨#[47]⟩).map (·.cps.toList) = a :: L ∧ a = headP x.cps.toList ∧ (L = [] → restP x.cps.toList = []) ∧ (∀ b, L = [b] → restP x.cps.toList = 47 :: b ∧ 47 ∉ b) ∧ (2 ≤ L.length → ∃ r, restP x.cps.toList = 47 :: r ∧ 47 ∈ r) := by
  have hf := StrLaws.split_free x 47
  have hj : joinL ((Txt.split x ⟨#[47]⟩).map (·.cps.toList)) = x.cps.toList := by rw [← join_list, StrLaws.join_split]
  have hp := PyProof.Rows.split_pos x ⟨#[47]⟩
  have hfL : ∀ l ∈ (Txt.split x ⟨#[47]⟩).map (·.cps.toList), 47 ∉ l := fun l hl => by
    obtain ⟨p, h1, rfl⟩ := List.mem_map.mp hl
    exact hf p h1
  have hl : 1 ≤ ((Txt.split x ⟨#[47]⟩).map (·.cps.toList)).length := by rw [List.length_map]; exact hp
  generalize (Txt.split x ⟨#[47]⟩).map (·.cps.toList) = Q at *
  cases Q with
  | nil => exact absurd hl (by simp)
  | cons a L =>
    have fa : ∀ c ∈ a, (c != 47) = true := fun c hc => by
      have : c ≠ 47 := fun z => hfL a List.mem_cons_self (by rw [← z]; exact hc)
      simpa using this
    cases L with
    | nil =>
      have hj' : a = x.cps.toList := hj
      rw [← hj']
      obtain ⟨e1, e2⟩ := head_all fa
      exact ⟨a, [], rfl, e1.symm, fun _ => e2, fun b z => (nomatch z), fun z => absurd z (by simp)⟩
    | cons b r =>
      have hj' : a ++ 47 :: joinL (b :: r) = x.cps.toList := hj
      rw [← hj']
      obtain ⟨e1, e2⟩ := head_app (r := joinL (b :: r)) fa
      refine ⟨a, b :: r, rfl, e1.symm, fun z => (nomatch z), fun b' z => ?_, fun z => ?_⟩
      · obtain ⟨rfl, rfl⟩ := List.cons.inj z
        exact ⟨e2, hfL b (List.mem_cons_of_mem _ List.mem_cons_self)⟩
      · cases r with
        | nil => exact absurd z (by simp)
        | cons c r => exact ⟨_, e2, List.mem_append_right _ List.mem_cons_self⟩
/-- how a whole is shown -/
theorem sh_str (i : Int) : (Str.ofString (toString i)).cps.toList = shI i := by
  unfold shI
  by_cases c : i < 0
  · obtain ⟨m, rfl⟩ : ∃ m : Nat, i = Int.negSucc m := by
      cases i with
      | ofNat m => exact absurd c (by simp)
      | negSucc m => exact ⟨m, rfl⟩
    rw [if_pos c, PyProof.Rows.signs_ofString]
    show (("-" ++ Nat.repr (m + 1)).toList).map Char.toNat = _
    rw [String.toList_append, List.map_append, Nat.toList_repr]
    rfl
  · obtain ⟨m, rfl⟩ := Int.eq_ofNat_of_zero_le (show 0 ≤ i by (first | lia | omega))
    rw [if_neg c]
    exact PySem.W.KIN.signs_num m
end Tx

namespace Tx
open PySem PySem.NumText L2 Builtin Builtin.Str
theorem len_list (x : Str) : x.cps.toList.length = x.length := by simp [Str.length]
/-- x[n:] -/
theorem slice_from (x : Str) (n : Nat) : (Txt.slice x (some (n : Int)) none).cps.toList = x.cps.toList.drop n := by
  rcases Nat.le_total n x.length with h | h
  · have e := PyProof.Rows.slice_closes_fromL (x := x) (i := (n : Int)) (b := x.length) (by (first | lia | omega)) (by (first | lia | omega)) rfl
    rw [beq_iff_eq.mp e]
    show (x.cps.toList.drop (n : Int).toNat).take ((x.length : Int) - n).toNat = _
    rw [Int.toNat_natCast]
    exact List.take_of_length_le (by rw [List.length_drop, len_list]; (first | lia | omega))
  · rw [PyProof.Rows.slice_from_beyond (by (first | lia | omega)), List.drop_of_length_le (by rw [len_list]; exact h)]
/-- x[:n] -/
theorem slice_to (x : Str) (n : Nat) : (Txt.slice x none (some (n : Int))).cps.toList = x.cps.toList.take n := by
  rcases Nat.le_total n x.length with h | h
  · have e := PyProof.Rows.slice_closes_toL (x := x) (j := (n : Int)) (by (first | lia | omega)) (by (first | lia | omega))
    rw [beq_iff_eq.mp e]
    show (x.cps.toList.drop (0 : Int).toNat).take ((n : Int) - 0).toNat = _
    rw [Int.sub_zero, Int.toNat_natCast]; rfl
  · have e := PyProof.Rows.slice_closes_toL (x := x) (j := (x.length : Int)) (by (first | lia | omega)) (by (first | lia | omega))
    rw [PyProof.Rows.slice_to_beyond (by (first | lia | omega)), beq_iff_eq.mp e]
    show (x.cps.toList.drop (0 : Int).toNat).take ((x.length : Int) - 0).toNat = _
    rw [Int.sub_zero, Int.toNat_natCast]
    show x.cps.toList.take x.length = x.cps.toList.take n
    rw [List.take_of_length_le (by rw [len_list]; exact Nat.le_refl _), List.take_of_length_le (by rw [len_list]; exact h)]
/-- x.startswith of one sign -/
theorem starts_one (x : Str) (c : Nat) : Txt.startswith x ⟨#[c]⟩ = decide (x.cps.toList.head? = some c) := by
  rw [Bool.eq_iff_iff, decide_eq_true_eq]
  have h := StrLaws.subAt_one x c 0
  rw [show x.cps.toList.head? = x.cps.toList[0]? by rw [List.head?_eq_getElem?]]
  rw [← h]
  unfold Txt.startswith
  rw [Bool.and_eq_true, decide_eq_true_eq]
/-- a sign among the figures -/
theorem in_figures (c : Nat) : (!(occurrences (Str.ofString "0123456789") ⟨#[c]⟩ 0 (Str.ofString "0123456789").length 1).isEmpty) = decide (48 ≤ c ∧ c ≤ 57) := by
  rw [StrLaws.found_one, decide_eq_decide]
  have e : (Str.ofString "0123456789").cps.toList = [48, 49, 50, 51, 52, 53, 54, 55, 56, 57] := by decide +kernel
  rw [e]
  constructor
  · intro h
    simp only [List.mem_cons, List.not_mem_nil, or_false] at h
    (first | lia | omega)
  · intro h
    simp only [List.mem_cons, List.not_mem_nil, or_false]
    (first | lia | omega)
/-- int of a word that the program or the law hands it -/
theorem int_word {x : Str} {v : Int} (h : rdW x.cps.toList = some v) : intText? x = some v ∧ x.length ≤ 21 := by
  unfold rdW at h
  split at h
  · rename_i hd
    split at h
    · rename_i c
      obtain ⟨⟨l1, l2⟩, ad⟩ := c
      have v' := Option.some.inj h
      cases e : x.cps.toList with
      | nil => rw [e] at hd; cases hd
      | cons a r =>
        rw [e] at hd l1 l2 ad v'
        have ha : a = 45 := by simpa using hd
        subst ha
        have lx : x.length ≤ 21 := by
          rw [← len_list, e]
          show r.length + 1 ≤ 21
          have : r.length ≤ 20 := l2
          (first | lia | omega)
        refine ⟨?_, lx⟩
        rw [← v']
        exact intText_neg e ((allD_iff r).mp ad) (fun z => by rw [z] at l1; exact absurd l1 (by decide)) (by (first | lia | omega))
    · cases h
  · split at h
    · rename_i c
      obtain ⟨⟨l1, l2⟩, ad⟩ := c
      have v' := Option.some.inj h
      have lx : x.length ≤ 21 := by rw [← len_list]; (first | lia | omega)
      refine ⟨?_, lx⟩
      rw [← v']
      exact intText_digits ((allD_iff _).mp ad) (fun z => by rw [z] at l1; exact absurd l1 (by decide)) (by (first | lia | omega))
    · cases h
end Tx

namespace L2
open PySem PySem.Spec PyProof.Rows Nm
section
variable {P : Program} {w : World} {K : PySem.W.Frag} {mg : Str → Option Value} {base : Heap}
/-- a call that may raise, in a def that lets it pass -/
theorem pe_kxE {X : Cx} {x : Str} {k : Nat} {ps : List Str} {sp : Sp} {E : XK} {p pos : Pos} {e : Expr} {es : List Expr} {t : TA} (D : Kx X.prog X.w X.K X.mg X.base x k ps sp) (hr : Room k X.A) (hg : Gl X x) (hx : Passes (CX1 X.prog X.w) X E) (ha : PA X (e :: es) t)
    (hdb : (x == ("__debug__" : Str)) = false := by decide) (he : starEach (e :: es) X.env = (false, eval e X.env) :: starEach es X.env := by rfl) (hpl : (backTo pos (starEach es X.env)).any (·.1) = false := by rfl) :
    PE X (.Call (.Name x p) (e :: es) [] pos) (tCall sp [] E t) := by
  obtain ⟨f, fd, F, hm, hk, hb⟩ := D.ex
  exact pe_call F hr hg hm hk hb .nil hx ha hdb he hpl
/-- an exception that a comprehension of the def's body has held leaves the def -/
theorem leave_held {N : List Str} {qual : Str} {scope : Scope} {f : Addr} {cd : Value} {A : Around} {outer : List Env} {s : Shared} {H : Hp} {E : XK} {pins : List (Addr × Obj)} {σ : St} {H2 : Hp} {s2 : Shared} {b1 : Heap} {a C : Addr} {t : Value}
    (I2 : Inv (cxOf (CX1 P w) P w K mg base N qual scope f cd A outer s H E) pins σ H2 s2) (hh : b1.HeldW (envOfC qual scope s.heap.objs.size f cd :: outer) a (.ref C) t s.heap.objs.size s2.heap)
    (kb : ∀ b o, s2.heap.get? b = some o → (s.heap.get? b ≠ none ∨ H2 b ≠ none) → b ∉ frs (envOfC qual scope s.heap.objs.size f cd :: outer) → b1.get? b = some o) (n1 : s.heap.get? a = none) (n2 : H2 a = none) (hE : E (.ref C) none H2) :
    (cxOf (CX1 P w) P w K mg base N qual scope f cd A outer s H E).xe (.ref a) s2 := by
  have ff := I2.stack
  have hst : frs (envOfC qual scope s.heap.objs.size f cd :: outer) = s.heap.objs.size :: frs outer := rfl
  have nL : ∀ b o, s.heap.get? b = some o → b ≠ s.heap.objs.size := fun b o q z => Nat.lt_irrefl _ (z ▸ Heap.lt_size q)
  have u : Un (frs outer) [] H H2 s.heap s2.heap := I2.base
  show wpAny _ _ (leaving (envOfC qual scope s.heap.objs.size f cd) (.ref a)) _ _ s2
  unfold leaving
  refine wpAny_bind (wpAny_noteFrame_againW (L := s.heap.objs.size) rfl hh.2.2.2 ?_)
  refine wpAny_landsW hh fun h' fl0 up => ?_
  obtain ⟨k1, k2, ⟨_, _, k3⟩, k4⟩ := fl0
  have fl : b1.FlyingW outer a (.ref C) t h' := ⟨k1, k2, k3, k4⟩
  have st := fl.1
  have nf : ∀ b, H2 b ≠ none → b ∉ s.heap.objs.size :: frs outer := fun b hb z => hb (I2.stkFree b (by rw [← hst] at z; exact z))
  have kp : ∀ b o, s2.heap.get? b = some o → (s.heap.get? b ≠ none ∨ H2 b ≠ none) → b ∉ s.heap.objs.size :: frs outer → h'.get? b = some o := fun b o q c n => st b o (kb b o q c n)
  refine ⟨a, C, H2, b1, rfl, I2.os, I2.bare, ⟨⟨t, fl⟩, ⟨fun b o q n hb _ => ?_, fun b o q n hb _ => ?_, u.free, fun b o q _ => ?_, u.tups, u.frzs, u.tbls⟩, fun b o q => ?_, fun b o q c n => ?_, fun b hb => I2.stkFree b (List.mem_cons_of_mem _ hb), n1, n2⟩, hE⟩
  · exact kp b o (u.keep b o q n hb (by simp)) (.inl (by rw [q]; simp)) fun z => (List.mem_cons.mp z).elim (nL b o q) hb
  · obtain ⟨sl, q1⟩ := u.slot b o q n hb (by simp)
    obtain ⟨o', e1, _, e3⟩ := frames_mem ff (List.mem_cons_of_mem _ hb)
    rw [q1] at e1; cases e1
    obtain ⟨sl', q2⟩ := up b _ q1 e3
    exact ⟨sl', q2⟩
  · obtain ⟨o', q1⟩ := u.there b o q (by simp)
    by_cases hb : b ∈ frs outer
    · obtain ⟨o2, e1, _, e3⟩ := frames_mem ff (List.mem_cons_of_mem _ hb)
      obtain ⟨sl', q2⟩ := up b _ e1 e3
      exact ⟨_, q2⟩
    · exact ⟨o', kp b o' q1 (.inl (by rw [q]; simp)) fun z => (List.mem_cons.mp z).elim (nL b o q) hb⟩
  · refine (I2.hok b o q).stay (fun c u' hc q1 => ?_) (fun _ z => z) fun _ _ z => z
    have nn : H2 c ≠ none := by
      rcases hc with rfl | hc
      · rw [q]; simp
      · rw [hc]; simp
    exact kp c u' q1 (.inr nn) (nf c nn)
  · obtain ⟨o1, q1⟩ : ∃ o1, s2.heap.get? b = some o1 := by
      rcases c with c | c
      · cases q' : s.heap.get? b with
        | none => exact absurd q' c
        | some o => exact u.there b o q' (by simp)
      · cases q' : H2 b with
        | none => exact absurd q' c
        | some o => exact (I2.hok b o q').there
    have n' : b ∉ s.heap.objs.size :: frs outer := by
      rcases c with c | c
      · cases q' : s.heap.get? b with
        | none => exact absurd q' c
        | some o => exact fun z => (List.mem_cons.mp z).elim (nL b o q') n
      · exact nf b c
    have e12 : o1 = o := Option.some.inj ((kp b o1 q1 c n').symm.trans q)
    rw [← e12]
    exact kb b o1 q1 c n'
end
end L2

/-! Rules whose readings do not name the fragment: closed readings are written once, however deep they stand. -/
namespace L2
open PySem PySem.Spec PyProof.Rows
noncomputable def K0 : PySem.W.Frag := []
section
variable {X : Cx} {K : PySem.W.Frag}
theorem SqL.up {H : Hp} {a : Addr} {xs : List V} (h : SqL K0 H a xs) : SqL K H a xs := by
  rcases h with h | ⟨o, its, n, hl, _⟩
  · exact .inl h
  · cases hl
theorem SqT.up {H : Hp} {a : Addr} {xs : List V} (h : SqT K0 H a xs) : SqT K H a xs := by
  rcases h with h | ⟨o, its, n, hl, _⟩
  · exact .inl h
  · cases hl
theorem tyV_up {T : String} {x : V} {H : Hp} (h : tyV K0 T x H) : tyV K T x H := by
  cases x with
  | ref p =>
    rcases h with ⟨e, xs, hx⟩ | ⟨e, o, ho, _⟩ | h | h
    · exact .inl ⟨e, xs, hx.up⟩
    · cases ho
    · exact .inr (.inr (.inl h))
    · exact .inr (.inr (.inr h))
  | _ => exact h
/-- a reading made monotone -/
noncomputable def mo (t : TE) : TE := fun σ H Q => ∃ Q0 : VK, t σ H Q0 ∧ ∀ x H', Q0 x H' → Q x H'
theorem PE.mo {e : Expr} {t : TE} (h : PE X e t) : PE X e (mo t) := fun pins s σ H Q I ⟨Q0, h0, hq⟩ =>
  thn (h pins s σ H Q0 I h0) fun v s1 ⟨x, H1, I1, r, q⟩ => ⟨x, H1, I1, r, hq x H1 q⟩
theorem ix_list0 : IxR X (rIxL K0) := fun value slice pins s σ H x y v u Q I rx ry ⟨p, xs, i, w, e1, e2, h, e3, q⟩ hs =>
  ix_list value slice pins s σ H x y v u Q I rx ry ⟨p, xs, i, w, e1, e2, h.up, e3, q⟩ hs
theorem ix_tup0 : IxR X (rIxT K0) := fun value slice pins s σ H x y v u Q I rx ry ⟨p, xs, i, w, e1, e2, h, e3, q⟩ hs =>
  ix_tup value slice pins s σ H x y v u Q I rx ry ⟨p, xs, i, w, e1, e2, h.up, e3, q⟩ hs
inductive ILen (xs : List V) (H : Hp) (Q : VK) : Prop where
  | mk (p : Addr) (ys : List V) (e : xs = [.ref p]) (h : SqL K0 H p ys ∨ SqT K0 H p ys) (q : Q (.int (ys.length : Int)) H) : ILen xs H Q
theorem call_len0 : CallR X (.builtin "len") ILen :=
  fun pins s σ H xs us Q I vs ⟨p, ys, e, h, q⟩ => call_lenK (K := X.K) rfl pins s σ H xs us Q I vs ⟨p, ys, e, h.imp SqL.up SqT.up, q⟩
/-! iterators -/
structure It.le (J0 J : It) : Prop where
  go : ∀ i H, J0.go i H → J.go i H
  stop : ∀ i H, J0.stop i H → J.stop i H
  yld : ∀ i H x H', J.yld i H x H' → J0.yld i H x H'
theorem Turn.weaken {P : Program} {w : World} {tg : Expr} {J J0 : It} {fp : List Addr} {it : Addr} {tn : Nat → Heap → Prop} (T : Turn P w K tg J fp it tn) (l : It.le J0 J) : Turn P w K tg J0 fp it tn where
  mem := T.mem
  obj := T.obj
  keep := T.keep
  self := T.self
  item := fun X p1 p2 p3 p4 i pins s σ H E I f t g => thn (T.item X p1 p2 p3 p4 i pins s σ H E I f t (l.go i H g)) fun r s1 ⟨u, e, hw⟩ => ⟨u, e, thn hw fun _ s2 ⟨x, H', a, b, y, c⟩ => ⟨x, H', a, b, l.yld _ _ _ _ y, c⟩⟩
  done := fun X p1 p2 p3 p4 i pins s σ H E I f t g => T.done X p1 p2 p3 p4 i pins s σ H E I f t (l.stop i H g)
theorem itl_le (a : Addr) : It.le (Itl K0 a) (Itl K a) := ⟨fun i H ⟨xs, x, h, e⟩ => ⟨xs, x, h.up, e⟩, fun i H ⟨xs, h, e⟩ => ⟨xs, h.up, e⟩, fun i H x H' ⟨e, h⟩ => ⟨e, fun xs hx => h xs hx.up⟩⟩
theorem pie_up {pins : List (Addr × Obj)} {σ : St} {tg : Expr} {R : It → Hp → Prop} {itv : Value} {s : Shared} (h : PIE X pins σ tg (fun J H => ∃ J0, It.le J0 J ∧ R J0 H) itv s) : PIE X pins σ tg R itv s := by
  obtain ⟨it, fp, tn, J, H', e, I2, T, t0, fo, J0, l, q⟩ := h
  exact ⟨it, fp, tn, J0, H', e, I2, T.weaken l, t0, fo, q⟩
theorem pi_list0 {tg l : Expr} {tl : TE} (hl : PE X l tl) : PI X tg l (iList K0 tl) := fun pins s σ H R I h =>
  thn (pi_list hl.mo pins s σ H (fun J H => ∃ J0, It.le J0 J ∧ R J0 H) I ⟨_, h, fun x H1 ⟨a, e, ⟨xs, hx⟩, q⟩ => ⟨a, e, ⟨xs, hx.up⟩, _, itl_le a, q⟩⟩) fun _ _ hw => thn hw fun _ _ hp => pie_up hp
theorem bm0 {o e' : Expr} {T : String} {r : V → List V → Hp → VK → Prop} {to : TE} {t : TA} (h : ∀ to', PE X o to' → PE X e' (tBM X.K T r to' t)) (ho : PE X o to) : PE X e' (tBM K0 T r to t) := fun pins s σ H Q I hh =>
  h (mo to) ho.mo pins s σ H Q I ⟨_, hh, fun x H1 ⟨a, b⟩ => ⟨tyV_up a, b⟩⟩
end
end L2

/-! list.remove of data that lies on the heap; all of a list of truths -/
namespace L2
open PySem PySem.Spec PyProof.Rows
end L2

namespace L2
open PySem PySem.Spec PyProof.Rows Nm
section
variable {X : Cx}
theorem any_range (bs : List Bool) (n : Nat) (h : n = bs.length) : (List.range n).any (fun i => bs.getD i false) = bs.any id := by
  subst h
  rw [Bool.eq_iff_iff, List.any_eq_true, List.any_eq_true]
  constructor
  · rintro ⟨i, hi, e⟩
    have hi' := List.mem_range.mp hi
    refine ⟨bs[i], List.getElem_mem hi', ?_⟩
    simpa [List.getD, hi'] using e
  · rintro ⟨b, hb, e⟩
    obtain ⟨i, hi, rfl⟩ := List.getElem_of_mem hb
    exact ⟨i, List.mem_range.mpr hi, by simpa [List.getD, hi] using e⟩
theorem call_any0 (hc : X.calm = true) : CallR X (.builtin "any") (fun xs H Q => ∃ (p : Addr) (bs : List Bool), xs = [.ref p] ∧ H p = some (.lst (bs.map V.bl)) ∧ Q (.bl (bs.any id)) H) := by
  intro pins s σ H xs us Q I r h
  obtain ⟨p, bs, rfl, hq, q⟩ := h
  obtain ⟨u, rfl, ru⟩ := Vals.one r
  cases ru
  obtain ⟨its, rv, pl, _⟩ := I.list (SqL.of (K := X.K) hq)
  have hh : X.A.in1.handled = none := I.ok.hd hc
  have lt : p < s.heap.objs.size := let ⟨_, e, _⟩ := pl.isList; Heap.lt_size e
  have hl : its.length = bs.length := by rw [← rv.length, List.length_map]
  refine call_any_walk (wpAny_pyIter_list pl.isList ?_)
  refine ⟨s.heap.objs.size, _, _, _, _, _, fun i => bs.getD i false, rfl, Walks.list hh s.heap.objs.size p (Nat.ne_of_lt lt) its.toArray, ⟨⟨_, Heap.get?_push_size _ rfl, rfl, rfl⟩, pl.isList.at fun o e => Heap.get?_push_of_some _ e⟩, fun i v s' Q' E' hv hQ => ?_, fun h' tk keep => ?_⟩
  · have hv' : its[i]? = some v := by simpa using hv
    have hi : i < bs.length := by rw [← hl]; exact (List.getElem?_eq_some_iff.mp hv').1
    obtain ⟨u, hu, ru⟩ := rv.get (i := i) (x := .bl bs[i]) (by rw [List.getElem?_map, List.getElem?_eq_getElem hi]; rfl)
    rw [hu] at hv'
    cases hv'
    cases ru
    refine wpAny_truthy_bool ?_
    simpa [List.getD, hi] using hQ
  · rw [any_range bs _ (by rw [List.size_toArray]; exact hl)]
    refine ⟨.bl (bs.any id), H, ?_, rfl, q⟩
    exact I.kept (h' := h') (t' := tk) fun b o eb => keep b o (by simp only [List.mem_cons, List.not_mem_nil, or_false]; exact Nat.ne_of_lt (Heap.lt_size eb)) (Heap.get?_push_of_some _ eb)
end
theorem for_str {x : Str} {g : TG} {tb : TS} {D : Ends} {σ : St} {H : Hp} (Pv : Nat → St → Hp → Prop) (h0 : Pv 0 σ H)
    (hs : ∀ (i c : Nat) (σ : St) (H : Hp), x.cps[i]? = some c → Pv i σ H → g (.str ⟨#[c]⟩) σ H fun σ2 H2 => tb { D with nx := Pv (i + 1), ct := Pv (i + 1), bk := D.nx } σ2 H2) (hd : ∀ σ H, Pv x.cps.size σ H → D.nx σ H) :
    ∃ W : Nat → Nat → St → Hp → Prop, (∃ m, W 0 m σ H) ∧ ∀ i m σ H, W i m σ H →
      ((Its x).stop i H ∧ D.nx σ H) ∨ ((Its x).go i H ∧ ∃ N : St → Hp → Prop, (∀ σ' H', N σ' H' → ∃ m', m' < m ∧ W (i + 1) m' σ' H') ∧ ∀ v H', (Its x).yld i H v H' → g v σ H' fun σ2 H2 => tb { D with nx := N, ct := N, bk := D.nx } σ2 H2) := by
  refine ⟨fun i m σ H => m = x.cps.size - i ∧ i ≤ x.cps.size ∧ Pv i σ H, ⟨x.cps.size, by simp, Nat.zero_le _, h0⟩, ?_⟩
  rintro i m σ H ⟨rfl, hi, p⟩
  by_cases hlt : i < x.cps.size
  · refine .inr ⟨hlt, Pv (i + 1), fun σ' H' p' => ⟨x.cps.size - (i + 1), by (first | lia | omega), rfl, hlt, p'⟩, fun v H' y => ?_⟩
    obtain ⟨e, c, hc, rfl⟩ := y
    subst e
    exact hs i c σ _ hc p
  · have e : i = x.cps.size := by (first | lia | omega)
    subst e
    exact .inl ⟨Nat.le_refl _, hd σ H p⟩
end L2

namespace L2
open PySem PySem.Spec PyProof.Rows Nm
section
variable {prog : Program} {w : World} {A : Around} {E : Value → Shared → Prop} {R : Result → Shared → Prop} {s : Shared}
/-- the block's loop, where its parts may raise -/
theorem compLoop_anyX {elt tg iter : Expr} {ifs : List Expr} {scope : Scope} {pos : Pos} {it ac : Value} {env : Env} (E : Value → Shared → Prop) (herr : ∀ e s', E e s' → notedBy (model prog w) A env (fun x s'' => R (.error x) s'') e s') (I : Nat → Shared → Prop)
    (turn : ∀ n s, I n s → wpAny (model prog w) A (pyNext it) (fun r s₁ => match r with
      | none => R (.ok .next) s₁
      | some v => wpAny (model prog w) A (letOwnedTupleGo tg it v) (fun _ s₂ => wpAny (model prog w) A (assign tg env v) (fun _ s₃ =>
          wpAny (model prog w) A (forIn ifs true fun c r => if r = true then do let ok ← isTrue c env (eval c env); pure (ForInStep.yield ok) else pure (ForInStep.yield r)) (fun ok s₄ =>
            if ok = true then wpAny (model prog w) A (eval elt env) (fun x s₅ =>
              wpAny (model prog w) A (call (.builtin "list.append") [ac, x]) (fun _ s₆ => ∃ m, m < n ∧ I m s₆) E s₅) E s₄
            else ∃ m, m < n ∧ I m s₄) E s₃) E s₂) E s₁) E s)
    (n : Nat) (h : I n s) :
    codeAny (model prog w) A (.compLoop (.ListComp elt [⟨tg, iter, ifs, 0⟩] scope pos) 0 it ac env) R s := by
  refine codeAny_loop rfl I (fun n s hJ => ?_) n h
  show wpAny _ A ((compTurn (.ListComp elt [⟨tg, iter, ifs, 0⟩] scope pos) 0 it ac env).onRaise (fun x => do noteFrame x env; theTreesLotGoes x)) _ _ s
  refine wpAny_noted ?_
  rw [compTurn_list]
  refine wpAny_bind (wpAny_standAt (wpAny_bind (wpAny_mono (turn n s hJ) (fun r s₁ h₁ => ?_) herr)))
  cases r with
  | none => exact wpAny_pure h₁
  | some v =>
    refine wpAny_bind (wpAny_mono h₁ (fun _ s₂ h₂ => ?_) herr)
    refine wpAny_bind (wpAny_mono h₂ (fun _ s₃ h₃ => wpAny_bind (wpAny_mono h₃ (fun ok s₄ h₄ => ?_) herr)) herr)
    cases ok with
    | false => exact wpAny_pure ⟨rfl, h₄⟩
    | true =>
      exact wpAny_bind (wpAny_bind (wpAny_mono h₄ (fun x s₅ h₅ => wpAny_bind (wpAny_mono h₅ (fun _ s₆ h₆ => wpAny_pure (wpAny_pure ⟨rfl, h₆⟩)) herr)) herr))
end
end L2

namespace L2
open PySem PySem.Spec PyProof.Rows Nm
theorem cast_w {α : Type} {P P' : Program} {w w' : World} {A A' : Around} {m : Sem α} {Q : α → Shared → Prop} {E : Value → Shared → Prop} {s : Shared} (h1 : P' = P) (h2 : w' = w) (h3 : A' = A) (z : wpAny (model P' w') A' m Q E s) : wpAny (model P w) A m Q E s := by
  subst h1 h2 h3; exact z
/-- a block's end, where the exception's frame is known: that of the env around -/
noncomputable def cpF (fr : Option Addr) (M : Model) (A : Around) (E : Value → Shared → Prop) (use : Option (Value → Sem Unit)) (Q : Value → Shared → Prop) (acc : Value) (C : Addr) (r : Result) (s' : Shared) : Prop :=
  match r with
  | .ok f => compPost M A E use Q acc C (.ok f) s'
  | .error x => ∃ m, s'.heap.Ns C m ∧ ∀ h', Heap.SameBut C s'.heap h' → ∀ cenv : Env, cenv.locals = C → cenv.frame = fr → wpAny M A (PySem.passOn "comprehension.variables-let-go" x cenv : Sem Value) Q E { s' with heap := h' }
theorem comp_freeX {M : Model} {A : Around} {E : Value → Shared → Prop} {s : Shared} {env : Env} {e : Expr} {scope : Scope} {pos : Pos} {newAcc first : Sem Value} {g : Comprehension} {gs : List Comprehension} {cl : List (Str × Addr)} {use : Option (Value → Sem Unit)} {Q : Value → Shared → Prop} (hcl : clausesOf e = g :: gs) (hs : ∀ x, foldedSetIterable g.iter env x = pure x) (hclos : closureFor scope env = pure cl) (hkind : scope.kind = .function)
    (hnames : ∀ x ∈ scope.names, x.2 = .local → scope.names.lookup x.1 = some .local)
    (h : wpAny M A first (fun x s₁ => wpAny M A (pyIter x) (fun it s₂ => wpAny M A newAcc (fun acc s₃ => wpAny M A (newFunctionEnv scope env.globals cl [] env.qual none Value.none (some env)) (fun cenv s₄ =>
      codeAny M A (.compStart e 0 it acc { cenv with scope := relabel scope env }) (cpF cenv.frame M A E use Q acc cenv.locals) s₄) E s₃) E s₂) E s₁) E s) :
    wpAny M A (comprehension e scope env pos newAcc false first use) Q E s := by
  have hk2 : ∀ vs : List (Str × NameKind), (∀ x ∈ vs, x ∈ scope.names) → ∀ (cenv : Env), cenv.scope = relabel scope env → ∀ x ∈ vs, x.2 = NameKind.local → cenv.kindOf x.1 = some NameKind.local := fun vs hv cenv hc x hx hl => by
    have h1 := hnames x (hv x hx) hl
    show cenv.scope.names.lookup x.1 = some NameKind.local
    rw [hc]
    show List.lookup x.1 (List.map _ scope.names) = some NameKind.local
    have gen : ∀ l : List (Str × NameKind), l.lookup x.1 = some NameKind.local → List.lookup x.1 (l.map fun (n, k) => if (k == NameKind.free && env.scope.kind == ScopeKind.function && env.kindOf n == some NameKind.cell) = true then (n, NameKind.cell) else (n, k)) = some NameKind.local := by
      intro l
      induction l with
      | nil => intro h; exact h
      | cons p l ih =>
        obtain ⟨n, k⟩ := p
        intro h
        rw [List.lookup_cons] at h
        rw [List.map_cons]
        by_cases c : (x.1 == n) = true
        · rw [c] at h
          have : k = NameKind.local := Option.some.inj h
          subst this
          have e1 : (NameKind.local == NameKind.free) = false := by decide
          simp only [e1, Bool.false_and, Bool.false_eq_true, if_false]
          rw [List.lookup_cons, c]
        · have c' : (x.1 == n) = false := by simpa using c
          rw [c'] at h
          have ih := ih h
          by_cases d : (k == NameKind.free && env.scope.kind == ScopeKind.function && env.kindOf n == some NameKind.cell) = true
          · dsimp only
            rw [if_pos d, List.lookup_cons, c']; exact ih
          · dsimp only
            rw [if_neg d, List.lookup_cons, c']; exact ih
    exact gen _ h1
  have sub : ∀ x ∈ (List.filter (fun x : Str × NameKind => (x.2 == NameKind.local || x.2 == NameKind.cell) && x.1 != Str.ofString ".0") scope.names), x ∈ scope.names := fun x hx => (List.mem_filter.mp hx).1
  unfold comprehension
  rw [hclos]
  refine wpAny_bind (wpAny_mono h (fun x s₁ h₁ => ?_) fun _ _ z => z)
  refine wpAny_bind (wpAny_standAt ?_)
  rw [hcl]
  dsimp only
  rw [hs]
  refine wpAny_bind (wpAny_pure ?_)
  refine wpAny_bind (wpAny_holding ?_)
  rw [if_neg Bool.false_ne_true]
  refine wpAny_mono h₁ (fun it s₂ h₂ => ?_) fun _ _ z => z
  refine wpAny_standIf ?_
  refine wpAny_bind (wpAny_mono h₂ (fun acc s₃ h₃ => ?_) fun _ _ z => z)
  refine wpAny_bind (wpAny_pure ?_)
  refine wpAny_bind (wpAny_mono h₃ (fun cenv s₄ h₄ => ?_) fun _ _ z => z)
  refine wpAny_holding (wpAny_bind (wpAny_attempt (wpAny_holding (wpAny_run (codeAny_mono h₄ fun r s' h5 => ?_)))))
  cases r with
  | ok f =>
    cases use with
    | none =>
      obtain ⟨m, hm, hq⟩ := h5
      refine wpAny_bind (wpAny_holding (wpAny_comp_letGo hkind _ _ m (hk2 _ (fun x hx => sub x (List.mem_reverse.mp hx)) _ rfl) hm fun h' m' _ sb => ?_))
      exact wpAny_pure (hq h' sb)
    | some u =>
      refine wpAny_bind (wpAny_rule ?_)
      refine wpAny_bind (wpAny_holding (wpAny_mono h5 (fun _ s6 h6 => ?_) fun _ _ z => z))
      obtain ⟨m, hm, hq⟩ := h6
      refine wpAny_bind (wpAny_comp_letGo hkind _ _ m (hk2 _ (fun x hx => sub x (by
        rcases List.mem_append.mp hx with h | h
        · exact List.mem_reverse.mp (List.mem_of_mem_drop h)
        · exact List.mem_reverse.mp (List.mem_of_mem_take h))) _ rfl) hm fun h' m' _ sb => ?_)
      exact wpAny_pure (hq h' sb)
  | error x =>
    obtain ⟨m, hm, hq⟩ := h5
    refine wpAny_bind (wpAny_holding (wpAny_comp_letGo hkind _ _ m (hk2 _ (fun x hx => sub x (List.mem_reverse.mp hx)) _ rfl) hm fun h' m' _ sb => ?_))
    exact hq h' sb _ rfl rfl
section
variable {X : Cx} {own fre : List Str} {idx : List Nat} {scope : Scope} {pins : List (Addr × Obj)} {σ : St} {H : Hp} {s : Shared}
theorem comp_runX {elt tg iter : Expr} {ifs : List Expr} {pos : Pos} {wi : TI} {g : TG} {tt : TT} {te : TE} {use : Option (Value → Sem Unit)} {R : List V → Hp → Prop} {Q : Value → Shared → Prop} (XE : Addr → List (Str × Addr) → Shared → Hp → List Addr → List (Addr × Obj) → Value → Shared → Prop) (B : BlkOk X own fre idx scope) (hc : X.calm = true) (hi : PI X tg iter wi) (hg : GOwn own.length g)
    (hb : ∀ (L : Addr) (cells : List (Str × Addr)) (s₀ : Shared) (H₀ : Hp) (ex : List Addr) (pn : List (Addr × Obj)), PG ((blk X own fre scope L cells s₀ H₀ ex pn).wish (XE L cells s₀ H₀ ex pn)) tg g ∧ PTs ((blk X own fre scope L cells s₀ H₀ ex pn).wish (XE L cells s₀ H₀ ex pn)) ifs tt ∧ PE ((blk X own fre scope L cells s₀ H₀ ex pn).wish (XE L cells s₀ H₀ ex pn)) elt te)
    (hx : ∀ (L D : Addr) (cells : List (Str × Addr)) (s₀ : Shared) (H₀ : Hp) (fp : List Addr), Inv X pins σ H₀ s₀ → (∀ b ∈ D :: fp, FpOk X pins H₀ b) → s₀.heap.objs.size = L → ∀ e s', XE L cells s₀ H₀ (D :: fp) (X.pn ++ pins) e s' → notedBy (model X.prog X.w) X.A (compEnvC scope cells L X.env) (fun x s'' => cpF X.env.frame (model X.prog X.w) X.A X.xe use Q (.ref D) L (.error x) s'') e s')
    (hs : ∀ x, foldedSetIterable iter X.env x = pure x) (I : Inv X pins σ H s) (h : tCompW own.length idx wi g tt te R σ H)
    (hq : ∀ (ys : List V) (H' : Hp) (s' : Shared) (L D : Addr) (m : Str → Option Value), R ys H' → H' D = none → Inv X pins σ (upd H' D (.lst ys)) s' → s'.heap.Ns L m → upd H' D (.lst ys) L = none → FpOk X pins (upd H' D (.lst ys)) L →
      compPost (model X.prog X.w) X.A X.xe use Q (.ref D) L (.ok .next) s') :
    wpAny (model X.prog X.w) X.A (comprehension (.ListComp elt [⟨tg, iter, ifs, 0⟩] scope pos) scope X.env (firstIterPos [⟨tg, iter, ifs, 0⟩] pos) (newList []) false (eval iter X.env) use) Q X.xe s := by
  have hnames : ∀ x ∈ scope.names, x.2 = .local → scope.names.lookup x.1 = some .local := fun x hx hl => by
    have := List.all_eq_true.mp B.loc x hx
    rw [hl] at this
    simpa using this
  refine comp_freeX (use := use) rfl hs (closureFor_eq (B.cells I.ok)) B.kind hnames (wpAny_mono (hi pins s σ H _ I h) (fun v s1 h1 => wpAny_mono h1 (fun itv s2 h2 => ?_) fun _ _ e => e) fun _ _ e => e)
  obtain ⟨it, fp, tn, J, H2, rfl, I2, T, st2, f2, W, ⟨m0, w0⟩, turn⟩ := h2
  refine wpAny_newObj_type ?_
  generalize hs3 : ({ s2 with heap := s2.heap.push { cls := .type "list", dict := none, data := .seq ([] : List Value).toArray } } : Shared) = s3
  have hD3 : s3.heap.get? s2.heap.objs.size = some { cls := .type "list", data := .seq ([] : List Value).toArray 0 } := by rw [← hs3]; exact Heap.get?_push_size _ rfl
  have keep23 : ∀ b o, s2.heap.get? b = some o → s3.heap.get? b = some o := fun b o e => by rw [← hs3]; exact Heap.get?_push_of_some _ e
  have I3 : Inv X pins σ H2 s3 := by rw [← hs3]; exact I2.kept (t' := s2.toks) fun b o e => Heap.get?_push_of_some _ e
  have sz3 : s3.heap.objs.size = s2.heap.objs.size + 1 := by rw [← hs3]; exact Heap.size_push ..
  generalize hD : s2.heap.objs.size = D at *
  have nD : H2 D = none := by rw [← hD]; exact I2.fresh
  have okD : FpOk X pins H2 D := I2.fpOk (by rw [hD]; exact Nat.le_refl _) nD
  have ltfp : ∀ b ∈ fp, b < D := fun b hb => by
    obtain ⟨o, ho, _⟩ := T.obj _ _ st2 b hb
    rw [← hD]; exact Heap.lt_size ho
  -- the block's frame
  simp only [newFunctionEnv, Option.isSome_some, if_true]
  refine wpAny_bind (wpAny_alloc ?_)
  refine wpAny_bind (wpAny_layCells _ (fun name kind cells => by cases hkc : kind == NameKind.cell <;> simp [hkc]) _ _ _ _ ?_)
  refine wpAny_bind (wpAny_pure (wpAny_pure ?_))
  have hL1 : (s3.heap.push dictO).objs.size = s3.heap.objs.size + 1 := Heap.size_push ..
  have I4 := blk_start (ex := D :: fp) B I3 (fun b hb => by
    rcases List.mem_cons.mp hb with rfl | hb
    · exact ⟨okD, by rw [sz3]; exact Nat.lt_succ_self _⟩
    · exact ⟨f2 b hb, by rw [sz3]; exact Nat.lt_succ_of_lt (ltfp b hb)⟩)
  generalize hs4 : ({ s3 with heap := pushCells (s3.heap.push dictO) scope.names } : Shared) = s4 at I4
  have keep34 : ∀ b o, s3.heap.get? b = some o → s4.heap.get? b = some o := fun b o e => by rw [← hs4]; exact pushCells_keeps _ _ b o (Heap.get?_push_of_some _ e)
  generalize hY : blk X own fre scope s3.heap.objs.size (bcells X scope s3.heap.objs.size) s3 H2 (D :: fp) (X.pn ++ pins) = Y at I4
  have YA : Y.A = X.A := by rw [← hY]; rfl
  have Yp : Y.prog = X.prog := by rw [← hY]; rfl
  have Yw : Y.w = X.w := by rw [← hY]; rfl
  have YK : Y.K = X.K := by rw [← hY]; rfl
  have Yc : Y.calm = true := by rw [← hY]; exact hc
  have Yex : Y.ex = D :: fp := by rw [← hY]; rfl
  have Ypn : Y.pn = X.pn ++ pins := by rw [← hY]; rfl
  have YL : Y.env.locals = s3.heap.objs.size := by rw [← hY]; rfl
  generalize hYE : XE s3.heap.objs.size (bcells X scope s3.heap.objs.size) s3 H2 (D :: fp) (X.pn ++ pins) = YE at *
  have hbY : PG (Y.wish YE) tg g ∧ PTs (Y.wish YE) ifs tt ∧ PE (Y.wish YE) elt te := by rw [← hY, ← hYE]; exact hb ..
  have hxY : ∀ e s', YE e s' → notedBy (model X.prog X.w) X.A Y.env (fun x s'' => cpF X.env.frame (model X.prog X.w) X.A X.xe use Q (.ref D) s3.heap.objs.size (.error x) s'') e s' := by
    rw [← hY, ← hYE]
    exact hx s3.heap.objs.size D (bcells X scope s3.heap.objs.size) s3 H2 fp I3 (fun b hb => by
      rcases List.mem_cons.mp hb with rfl | hb
      · exact okD
      · exact f2 b hb) rfl
  have nDY : D ≠ Y.env.locals := by rw [YL, sz3]; exact Nat.ne_of_lt (Nat.lt_succ_self _)
  have okY := I4.ok
  have fsD : D ∉ Y.fs := okY.exfs D (by rw [Yex]; exact List.mem_cons_self)
  have pnD : ∀ p ∈ Y.pn, p.1 ≠ D := by rw [Ypn]; exact okD.2.2.2.2.2
  have FO : ∀ {H' : Hp} {o : Obj}, (∀ b ∈ fp, H' b = none) → ∀ b ∈ fp, FpOk Y [(D, o)] H' b := fun {H' o} hn b hb => by
    have m : b ∈ Y.ex := by rw [Yex]; exact List.mem_cons_of_mem _ hb
    refine ⟨hn b hb, (okY.exf b m).1, okY.exfs b m, .inl m, (okY.exf b m).2, fun p hp => ?_⟩
    rcases List.mem_append.mp hp with hp | hp
    · rw [Ypn] at hp
      exact (f2 b hb).2.2.2.2.2 p hp
    · have e : p = (D, o) := by simpa using hp
      rw [e]
      exact Ne.symm (Nat.ne_of_lt (ltfp b hb))
  have pinD : ∀ {pl : List (Addr × Obj)} {σ' : St} {H' : Hp} {s' : Shared} {o : Obj}, Inv Y pl σ' H' s' → s'.heap.get? D = some o → H' D = none → (∀ v, o.data ≠ .cell v) → Inv Y [(D, o)] σ' H' s' := fun {pl σ' H' s' o} I' e hn hd => I'.pins_of fun p hp => by
    have e' : p = (D, o) := by simpa using hp
    subst e'
    exact ⟨e, hn, nDY, fsD, hd⟩
  have loop : codeAny (model X.prog X.w) X.A (.compLoop (.ListComp elt [⟨tg, iter, ifs, 0⟩] scope pos) 0 (.ref it) (.ref D) Y.env) (cpF X.env.frame (model X.prog X.w) X.A X.xe use Q (.ref D) s3.heap.objs.size) s4 := by
    refine compLoop_anyX YE hxY (fun n s' => ∃ i ys its k H', Inv Y [(D, ({ cls := .type "list", data := .seq (its : List Value).toArray k } : Obj))] (bst own.length idx σ) H' s' ∧ tn i s'.heap ∧ (∀ b ∈ fp, H' b = none) ∧ Vals ys its ∧ ys.length ≤ sizeLine ∧ W i n ys H') ?_ m0
      ⟨0, [], [], 0, H2, pinD I4 (keep34 _ _ hD3) nD (fun v z => nomatch z), T.keep _ _ _ st2 fun b _ o e => keep34 _ _ (keep23 _ _ e), fun b hb => (f2 b hb).1, .nil, Nat.zero_le _, w0⟩
    rintro n s' ⟨i, ys, its, k, H', I', st', fr', hv, hz, w'⟩
    have pD := I'.pin _ (List.mem_append_right _ List.mem_cons_self)
    rcases turn i n ys H' w' with ⟨stop, hl, hR⟩ | ⟨go, hl, step⟩
    · have z := T.done Y Yp Yw YK Yc i _ s' _ H' YE I' (FO fr') st' stop
      rw [YA] at z
      refine thn z fun r s5 ⟨hr, I5⟩ => ?_
      subst hr
      have pD5 := I5.pin _ (List.mem_append_right _ List.mem_cons_self)
      have I5' := I5
      rw [← hY] at I5'
      have E := blk_end I3 I5' (fun b hb => f2 b hb) okD pD5.2.1 hv hl pD5.1
      obtain ⟨m5, hm5, _⟩ := I5.loc
      rw [YL] at hm5
      have nL : H' s3.heap.objs.size = none := by rw [← YL]; exact I5.free
      have nL' : upd H' D (.lst ys) s3.heap.objs.size = none := by rw [upd_ne (by rw [← YL]; exact Ne.symm nDY)]; exact nL
      exact hq ys H' s5 _ D m5 hR pD5.2.1 E hm5 nL' (I3.fpOk (Nat.le_refl _) nL')
    · have z := T.item Y Yp Yw YK Yc i _ s' _ H' YE I' (FO fr') st' go
      rw [YA] at z
      refine thn z fun r s5 ⟨u, hr, h5⟩ => ?_
      subst hr
      refine thn h5 fun _ s6 ⟨x, H6, I6, r6, y6, st6, fr6⟩ => ?_
      have I6' := I6.pinned (FO fr6) (T.obj _ _ st6)
      have z7 := hbY.1 _ s6 _ H6 x u _ (I6'.wish _) r6 (hg _ _ _ _ (step x H6 y6))
      refine thn (cast_w Yp Yw YA z7) fun _ s7 ⟨σ7, H7, I7, q7, d7, l7⟩ => ?_
      have z8 := hbY.2.1 _ s7 σ7 H7 _ I7 q7
      refine thn (cast_w Yp Yw YA z8) fun ok s8 ⟨H8, I8w, q8⟩ => ?_
      have I8 := I8w.unwish
      have tnK : ∀ {σ9 : St} {H9 : Hp} {s9 : Shared}, Inv Y ([(D, ({ cls := .type "list", data := .seq its.toArray k } : Obj))] ++ pinsAt fp s6.heap) σ9 H9 s9 → tn (i + 1) s9.heap ∧ ∀ b ∈ fp, H9 b = none := fun I9 =>
        ⟨T.keep _ _ _ st6 fun b hb o e => (I9.pin (b, o) (List.mem_append_right _ (List.mem_append_right _ (mem_pinsAt hb e)))).1, fun b hb => by
          obtain ⟨o, e, d⟩ := T.obj _ _ st6 b hb
          exact (I9.pin (b, o) (List.mem_append_right _ (List.mem_append_right _ (mem_pinsAt hb e)))).2.1⟩
      cases ok with
      | false =>
        rw [if_neg Bool.false_ne_true] at q8 ⊢
        obtain ⟨m', hm, w8⟩ := q8
        obtain ⟨t8, n8⟩ := tnK I8
        exact ⟨m', hm, i + 1, ys, its, k, H8, I8.unpinned.weak l7.symm (bst_back d7), t8, n8, hv, hz, w8⟩
      | true =>
        rw [if_pos rfl] at q8 ⊢
        have z9 := hbY.2.2 _ s8 σ7 H8 _ I8w q8
        refine thn (cast_w Yp Yw YA z9) fun y s9 ⟨v9, H9, I9w, r9, m', hm, w9⟩ => ?_
        have I9 := I9w.unwish
        obtain ⟨t9, n9⟩ := tnK I9
        have pD9 := I9.pin (D, { cls := .type "list", data := .seq its.toArray k }) (List.mem_append_right _ (List.mem_append_left _ List.mem_cons_self))
        refine append_at pD9.1 (fun h10 sb hD10 => ?_) (by rw [List.size_toArray, ← hv.length]; exact Nat.le_of_lt hl)
        have I9a : Inv Y [] σ7 H9 s9 := I9.pins_of fun p hp => nomatch hp
        have I10 : Inv Y [] σ7 H9 { s9 with heap := h10 } := I9a.turned (t' := s9.toks) (it := D) (fun b o hb e => sb.extBut b o hb e) pD9.2.1 nDY (.inl (by rw [Yex]; exact List.mem_cons_self)) (okY.exf D (by rw [Yex]; exact List.mem_cons_self)).2 (fun p hp => by
          rw [List.append_nil] at hp
          exact pnD p hp)
        refine ⟨m', hm, i + 1, ys ++ [v9], its ++ [y], k + 1, H9, pinD (I10.weak l7.symm (bst_back d7)) ?_ pD9.2.1 (fun v z => nomatch z), ?_, n9, hv.append (.cons r9 .nil), ?_, w9⟩
        · show h10.get? D = _
          rw [hD10, List.push_toArray]
        · exact T.keep _ _ _ t9 fun b hb o e => sb.extBut b o (Nat.ne_of_lt (ltfp b hb)) e
        · rw [List.length_append, List.length_singleton]; exact hl
  have goal : codeAny (model X.prog X.w) X.A (.compStart (.ListComp elt [⟨tg, iter, ifs, 0⟩] scope pos) 0 (.ref it) (.ref D) Y.env) (cpF X.env.frame (model X.prog X.w) X.A X.xe use Q (.ref D) s3.heap.objs.size) s4 :=
    codeAny_compStart_list loop (T.self X.A 0 s4 _ _ (T.keep _ _ _ st2 fun b _ o e => keep34 _ _ (keep23 _ _ e)) loop)
  rw [← hY] at goal
  have hsz : ({ s3 with heap := s3.heap.push { cls := .type "dict", data := .dict #[] } } : Shared).heap.objs.size = s3.heap.objs.size + 1 := Heap.size_push ..
  rw [hsz]
  first
    | exact goal
    | (rw [← hs4] at goal; exact goal)
end
end L2

namespace L2
open PySem PySem.Spec PyProof.Rows Nm
/-- the frames stand, whatever becomes of another object -/
theorem frames_but {h h' b1 : Heap} {D : Addr} (keep : ∀ b o, b ≠ D → h.get? b = some o → h'.get? b = some o) : ∀ {l : List Env}, h.FunFrames b1 l → D ∉ frs l → h'.FunFrames (PySem.W.hideAll b1 [D]) l
  | [], _, _ => trivial
  | env :: l, F, hs => by
    obtain ⟨k, ⟨L, o, e1, e2, e3, e4⟩, F'⟩ := F
    have em : frs (env :: l) = L :: frs l := by unfold frs; rw [List.filterMap_cons_some e1]
    rw [em] at hs
    have nL : L ≠ D := fun z => hs (by rw [z]; exact List.mem_cons_self)
    refine ⟨k, ⟨L, o, e1, ?_, keep L o nL e3, e4⟩, frames_but keep F' fun hb => hs (List.mem_cons_of_mem _ hb)⟩
    cases q : (PySem.W.hideAll b1 [D]).get? L with
    | none => rfl
    | some o' => rw [PySem.W.of_hideAll _ q] at e2; cases e2
theorem hid_none {b1 : Heap} {D a : Addr} (h : b1.get? a = none) : (PySem.W.hideAll b1 [D]).get? a = none := by
  cases q : (PySem.W.hideAll b1 [D]).get? a with
  | none => rfl
  | some o' => rw [PySem.W.of_hideAll _ q] at h; cases h
/-- an exception that is held stays so, whatever becomes of the block's names -/
theorem held_but {h h' b1 : Heap} {D e L : Addr} {l : List Env} {cls a0 : Value} (hh : b1.HeldW l e cls a0 L h) (keep : ∀ b o, b ≠ D → h.get? b = some o → h'.get? b = some o) (nf : D ∉ frs l) (hD : ∃ o, h.get? D = some o ∧ ∀ vs, o.data ≠ Data.fields vs) :
    (PySem.W.hideAll b1 [D]).HeldW l e cls a0 L h' := by
  obtain ⟨k1, k2, k3, oe, vs, T, oT, ts, he, hc, hd, h1, hnT, hTe, hT, hdT, h3⟩ := hh
  obtain ⟨oD, hoD, hnD⟩ := hD
  have ne : e ≠ D := fun z => by rw [z, hoD] at he; cases he; exact hnD vs hd
  have nT : T ≠ D := fun z => by rw [z, hoD] at hT; cases hT; exact hnD ts hdT
  refine ⟨fun b o q => ?_, hid_none k2, frames_but keep k3 nf, oe, vs, T, oT, ts, keep e oe ne he, hc, hd, h1, hid_none hnT, hTe, keep T oT nT hT, hdT, h3⟩
  have nb : b ≠ D := fun z => by
    rw [z, PySem.W.hideAll_none [D] List.mem_cons_self] at q; cases q
  exact keep b o nb (k1 b o (PySem.W.of_hideAll _ q))
end L2

namespace L2
open PySem PySem.Spec PyProof.Rows Nm
/-- an exception that is held goes on from a block -/
theorem pass_held {α : Type} {M : Model} {A : Around} {E : Value → Shared → Prop} {Q : α → Shared → Prop} {s : Shared} {b1 : Heap} {l : List Env} {e L : Addr} {cls a0 : Value} {env : Env} {what : String} (hf : env.frame = some L) (hh : b1.HeldW l e cls a0 L s.heap)
    (hE : ∀ h', b1.HeldW l e cls a0 L h' → (∀ b o, s.heap.get? b = some o → (∀ vs, o.data ≠ .fields vs) → h'.get? b = some o) → E (.ref e) { s with heap := h' }) : wpAny M A (PySem.passOn what (.ref e) env : Sem α) Q E s := by
  obtain ⟨k1, k2, k3, oe, vs, T, oT, ts, he, hc, hd, h1, hnT, hTe, hT, hdT, h3⟩ := hh
  have hz : 3 < ts.size := (Array.getElem?_eq_some_iff.mp h3).1
  have oth : ∀ b, b ≠ T → (s.heap.update T (Obj.mapFields fun q => q.setIfInBounds 3 (rawInt L))).get? b = s.heap.get? b := fun b hb => Heap.get?_update_other _ _ (Ne.symm hb)
  have pl : ∀ b o, s.heap.get? b = some o → (∀ vs, o.data ≠ .fields vs) → b ≠ T := fun b o q n z => by
    subst z
    rw [hT] at q
    cases q
    exact n ts hdT
  unfold PySem.passOn
  refine wpAny_bind (wpAny_field he hd h1 ?_)
  rw [if_neg (by simp)]
  refine wpAny_bind ?_
  unfold setFlight
  refine wpAny_bind (wpAny_field he hd h1 ?_)
  rw [hf, if_pos (by simp)]
  refine wpAny_setField hT hdT hz (wpAny_throw (hE _ ⟨fun b o q => ?_, k2, k3.of_keeps fun b o q n => ⟨o, (oth b (pl b o q n)).trans q, rfl⟩, oe, vs, T, _, _, (oth e (Ne.symm hTe)).trans he, hc, hd, h1, hnT, hTe, Heap.get?_update_self _ hT (Obj.isFreed_of_fields (Obj.data_mapFields hdT _)), Obj.data_mapFields hdT _, by simp [hz]⟩ fun b o q n => (oth b (pl b o q n)).trans q))
  exact (oth b fun z => by rw [z, hnT] at q; cases q).trans (k1 b o q)
end L2

namespace L2
open PySem PySem.Spec PyProof.Rows Nm
/-- which frame is noted is the env's frame alone: a block notes its def's -/
theorem note_frame_eq {e : Value} {env env' : Env} (h : env'.frame = env.frame) : noteFrame e env' = noteFrame e env := by
  unfold noteFrame PySem.frameOf
  rw [h]
theorem looks_blk {M : Model} {A : Around} {E : Value → Shared → Prop} {Q : Unit → Shared → Prop} {s : Shared} {b1 : Heap} {env env' : Env} {outer : List Env} {L e : Addr} {cls a0 : Value} (he : env'.frame = env.frame) (hfr : A.frames = some (env :: outer)) (hf : env.frame = some L) (hfl : b1.FlyingW (env :: outer) e cls a0 s.heap)
    (hQ : ∀ h', b1.HeldW (env :: outer) e cls a0 L h' → s.heap.UpToSlots h' → Q () { s with heap := h' }) : wpAny M A (noteFrame (.ref e) env') Q E s := by
  rw [note_frame_eq he]
  exact wpAny_looks_onW hfr hf hfl hQ
theorem again_blk {M : Model} {A : Around} {E : Value → Shared → Prop} {Q : Unit → Shared → Prop} {s : Shared} {b1 : Heap} {env' : Env} {l : List Env} {L e : Addr} {cls a0 : Value} (hf : env'.frame = some L) (hh : b1.HeldW l e cls a0 L s.heap) (hQ : Q () s) : wpAny M A (noteFrame (.ref e) env') Q E s :=
  wpAny_noteFrame_againW hf hh.2.2.2 hQ
end L2

namespace L2
open PySem PySem.Spec PyProof.Rows Nm
/-! ### an exception within a block: it flies, or is held by the def's frame -/
/-- the frame that notes it is the def's -/
structure Dp (X : Cx) (L0 : Addr) : Prop where
  st : ∃ env0 outer0, X.stack = env0 :: outer0 ∧ env0.frame = some L0
  fr : X.env.frame = some L0
/-- what stood at the start, or is told of, stands still -/
noncomputable def Still (Z : Cx) (H2 : Hp) (b1 h : Heap) : Prop := ∀ b o, h.get? b = some o → ((Z.s₀.heap.get? b ≠ none ∧ b ∉ Z.ex) ∨ H2 b ≠ none) → b ∉ frs Z.stack → b1.get? b = some o
noncomputable def HeldX (L0 : Addr) (Z : Cx) (E : XK) (e : Value) (s' : Shared) : Prop := ∃ (pins : List (Addr × Obj)) (σ : St) (H2 : Hp) (a C : Addr) (b1 : Heap) (t : Value), e = .ref a ∧ Inv Z pins σ H2 s' ∧ b1.HeldW Z.stack a (.ref C) t L0 s'.heap ∧ Still Z H2 b1 s'.heap ∧ (∀ o, Z.s₀.heap.get? a = some o → a ∈ Z.ex) ∧ H2 a = none ∧ E (.ref C) none H2
noncomputable def XH (L0 : Addr) (Z : Cx) (E : XK) (e : Value) (s' : Shared) : Prop := ∃ (pins : List (Addr × Obj)) (σ : St) (H2 : Hp) (a C : Addr) (b1 : Heap) (t : Value), e = .ref a ∧ Inv Z pins σ H2 s' ∧ (b1.FlyingW Z.stack a (.ref C) t s'.heap ∨ b1.HeldW Z.stack a (.ref C) t L0 s'.heap) ∧ Still Z H2 b1 s'.heap ∧ (∀ o, Z.s₀.heap.get? a = some o → a ∈ Z.ex) ∧ H2 a = none ∧ E (.ref C) none H2
theorem HeldX.xh {L0 : Addr} {Z : Cx} {E : XK} {e : Value} {s' : Shared} (h : HeldX L0 Z E e s') : XH L0 Z E e s' := by
  obtain ⟨pins, σ, H2, a, C, b1, t, he, I, hh, r⟩ := h
  exact ⟨pins, σ, H2, a, C, b1, t, he, I, .inr hh, r⟩
theorem HeldX.unwish {L0 : Addr} {Z : Cx} {F : Value → Shared → Prop} {E : XK} {e : Value} {s' : Shared} (h : HeldX L0 (Z.wish F) E e s') : HeldX L0 Z E e s' := by
  obtain ⟨pins, σ, H2, a, C, b1, t, he, I, hh, r⟩ := h
  exact ⟨pins, σ, H2, a, C, b1, t, he, I.unwish, hh, r⟩
/-- a call within a block that raises -/
theorem blk_passes {Z : Cx} {L0 : Addr} {E : XK} : Passes (CX1 Z.prog Z.w) (Z.wish (XH L0 Z E)) E := by
  intro pins σ H1 s1 e s2 I h
  obtain ⟨a, C, H2, b1, rfl, ho, hg, F, hE⟩ := h
  have I1 := I.unwish
  have I2 : Inv Z pins σ H2 s2 := Fly.inv (X := Z) F I1 ho hg
  obtain ⟨t, fl⟩ := F.fl
  have th : ∀ b, Z.s₀.heap.get? b ≠ none → b ∉ Z.ex → s1.heap.get? b ≠ none := fun b hb nx => by
    cases q : Z.s₀.heap.get? b with
    | none => exact absurd q hb
    | some o =>
      obtain ⟨o', q'⟩ := I1.base.there b o q nx
      rw [q']; simp
  refine ⟨pins, σ, H2, a, C, b1, t, rfl, I2, .inl fl, fun b o q c n => ?_, fun o q => ?_, F.new.2, hE⟩
  · exact F.kb b o q (c.imp (fun z => th b z.1 z.2) id) n
  · exact Classical.byContradiction fun nx => absurd F.new.1 (th a (by rw [q]; simp) nx)
/-- and goes on behind the block -/
theorem blk_hx {X : Cx} {own fre : List Str} {scope : Scope} {pins : List (Addr × Obj)} {σ : St} {L0 : Addr} {E : XK} {use : Option (Value → Sem Unit)} {Q : Value → Shared → Prop} (hd : Dp X L0) (out : ∀ e s', HeldX L0 X E e s' → X.xe e s')
    (L D : Addr) (cells : List (Str × Addr)) (s₀ : Shared) (H₀ : Hp) (fp : List Addr) (I : Inv X pins σ H₀ s₀) (hfp : ∀ b ∈ D :: fp, FpOk X pins H₀ b) (hL : s₀.heap.objs.size = L) (e : Value) (s' : Shared) (h : XH L0 (blk X own fre scope L cells s₀ H₀ (D :: fp) (X.pn ++ pins)) E e s') :
    notedBy (model X.prog X.w) X.A (compEnvC scope cells L X.env) (fun x s'' => cpF X.env.frame (model X.prog X.w) X.A X.xe use Q (.ref D) L (.error x) s'') e s' := by
  obtain ⟨pl, σb, H2, a, C, b1, t, rfl, I', fh, kb, n1, n2, hE⟩ := h
  obtain ⟨env0, outer0, hst, hf0⟩ := hd.st
  have u : Un (frs X.stack) (D :: fp) H₀ H2 s₀.heap s'.heap := I'.base
  have nL0 : s₀.heap.get? L = none := by
    cases q : s₀.heap.get? L with
    | none => rfl
    | some o => exact absurd (Heap.lt_size q) (by rw [hL]; exact Nat.lt_irrefl _)
  have nLb : ∀ b o, s₀.heap.get? b = some o → b ≠ L := fun b o q z => by rw [z, nL0] at q; cases q
  have H2L : H2 L = none := I'.free
  have nLH : ∀ b, H2 b ≠ none → b ≠ L := fun b hb z => hb (by rw [z]; exact H2L)
  have stk : ∀ b ∈ frs X.stack, H2 b = none := fun b hb => I'.stkFree b hb
  have exX : ∀ b ∈ D :: fp, b ∈ X.ex ∨ X.s₀.heap.objs.size ≤ b := fun b hb => (hfp b hb).2.2.2.1
  -- once it is held
  have key : ∀ h1 : Heap, b1.HeldW X.stack a (.ref C) t L0 h1 → s'.heap.UpToSlots h1 → cpF X.env.frame (model X.prog X.w) X.A X.xe use Q (.ref D) L (.error (.ref a)) { s' with heap := h1 } := fun h1 hh up => by
    obtain ⟨m, ⟨oL, es, ep, hoL, rL⟩, _⟩ := id I'.loc
    have hoL' : s'.heap.get? L = some oL := hoL
    have ndL : ∀ vs, oL.data ≠ Data.fields vs := fun vs z => by
      obtain ⟨r1, _⟩ := rL
      first
        | (rw [z] at r1; cases r1)
        | (simp [z] at r1)
    obtain ⟨sl, hoL1⟩ := up L oL hoL' ndL
    refine ⟨m, ⟨_, es, ep, hoL1, rL⟩, fun h2 sb cenv hl hfr => ?_⟩
    have keep12 : ∀ b o, b ≠ L → h1.get? b = some o → h2.get? b = some o := fun b o nb q => (sb.2 b nb).trans q
    have nfL : L ∉ frs X.stack := fun hb => by
      have := I.stkSub L hb
      rcases List.mem_cons.mp this with z | z
      · have lt := I.lt
        rw [← z, hL] at lt
        exact Nat.lt_irrefl _ lt
      · obtain ⟨_, o, ho, _⟩ := I.ok.funs.mem z
        have lt := Nat.lt_of_lt_of_le (Heap.lt_size ho) I.sz
        rw [hL] at lt
        exact Nat.lt_irrefl _ lt
    have hh2 := held_but hh keep12 nfL ⟨_, hoL1, ndL⟩
    refine pass_held (hfr.trans hd.fr) hh2 fun h3 hh3 kp3 => out _ _ ?_
    -- everything that counts stands still
    have st3 : ∀ b o, b1.get? b = some o → b ≠ L → h3.get? b = some o := fun b o q nb => hh3.1 b o (PySem.W.hideAll_get _ q (by simpa using nb))
    have kp : ∀ b o, s'.heap.get? b = some o → ((s₀.heap.get? b ≠ none ∧ b ∉ D :: fp) ∨ H2 b ≠ none) → b ∉ frs X.stack → h3.get? b = some o := fun b o q c n => by
      refine st3 b o (kb b o q c n) ?_
      rcases c with c | c
      · cases q' : s₀.heap.get? b with
        | none => exact absurd q' c.1
        | some o' => exact nLb b o' q'
      · exact nLH b c
    have slot : ∀ b o, s₀.heap.get? b = some o → H₀ b = none → b ∈ frs X.stack → b ∉ D :: fp → ∃ sl, h3.get? b = some { o with slots := sl } := fun b o q n hb hx => by
      obtain ⟨sl1, q1⟩ := u.slot b o q n hb hx
      obtain ⟨o', e1, _, e3⟩ := frames_mem I'.stack hb
      rw [q1] at e1; cases e1
      obtain ⟨sl2, q2⟩ := up b _ q1 e3
      have q3 := keep12 b _ (nLb b o q) q2
      exact ⟨sl2, kp3 b _ q3 e3⟩
    have thr : ∀ b o, s₀.heap.get? b = some o → b ∉ D :: fp → ∃ o', h3.get? b = some o' := fun b o q hx => by
      by_cases hb : b ∈ frs X.stack
      · cases q0 : H₀ b with
        | none =>
          obtain ⟨sl, q'⟩ := slot b o q q0 hb hx
          exact ⟨_, q'⟩
        | some v =>
          have := I.stkFree b hb
          rw [q0] at this; cases this
      · obtain ⟨o', q'⟩ := u.there b o q hx
        exact ⟨o', kp b o' q' (.inl ⟨by rw [q]; simp, hx⟩) hb⟩
    have I3 : Inv X [] σ H2 { s' with heap := h3 } := by
      have Iw : Inv X [] σ H₀ s₀ := I.pins_of fun p hp => nomatch hp
      refine Iw.call' (ch := D :: fp) (s' := { s' with heap := h3 }) I'.os ⟨fun b o q n hb hx => ?_, slot, u.free, fun b o q hx => thr b o q hx, u.tups, u.frzs, u.tbls⟩ (fun b o q => ?_) I'.bare fun b hb => ?_
      · exact kp b o (u.keep b o q n hb hx) (.inl ⟨by rw [q]; simp, hx⟩) hb
      · refine (I'.hok b o q).stay (fun c u' hc q1 => ?_) (fun _ z => z) fun _ _ z => z
        have nn : H2 c ≠ none := by
          rcases hc with rfl | hc
          · rw [q]; simp
          · rw [hc]; simp
        exact kp c u' q1 (.inr nn) fun z => nn (stk c z)
      · obtain ⟨f0, f1, f2, f3, f4, f5⟩ := hfp b hb
        exact ⟨f3, f1, f4, fun p hp => f5 p (by
          rw [List.append_nil] at hp
          exact List.mem_append_left _ hp)⟩
    have old : ∀ b o, X.s₀.heap.get? b = some o → b ∉ X.ex → (∃ o', s₀.heap.get? b = some o') ∧ b ∉ D :: fp := fun b o q nx => by
      refine ⟨I.base.there b o q nx, fun hb => ?_⟩
      rcases exX b hb with z | z
      · exact nx z
      · exact absurd (Heap.lt_size q) (Nat.not_lt.mpr z)
    refine ⟨[], σ, H2, a, C, PySem.W.hideAll b1 [L], t, rfl, I3, hh3, fun b o q c n => ?_, fun o q => ?_, n2, hE⟩
    · have nb : b ≠ L := by
        rcases c with c | c
        · cases q' : X.s₀.heap.get? b with
          | none => exact absurd q' c.1
          | some o' =>
            obtain ⟨⟨o2, q2⟩, _⟩ := old b o' q' c.2
            exact nLb b o2 q2
        · exact nLH b c
      have c' : (s₀.heap.get? b ≠ none ∧ b ∉ D :: fp) ∨ H2 b ≠ none := c.imp (fun z => by
        cases q' : X.s₀.heap.get? b with
        | none => exact absurd q' z.1
        | some o' =>
          obtain ⟨⟨o2, q2⟩, nx⟩ := old b o' q' z.2
          exact ⟨by rw [q2]; simp, nx⟩) id
      obtain ⟨o1, q1⟩ : ∃ o1, s'.heap.get? b = some o1 := by
        rcases c' with z | z
        · cases q' : s₀.heap.get? b with
          | none => exact absurd q' z.1
          | some o' => exact u.there b o' q' z.2
        · cases q' : H2 b with
          | none => exact absurd q' z
          | some o' => exact (I'.hok b o' q').there
      have k1 := kb b o1 q1 c' n
      have e12 : o1 = o := Option.some.inj ((st3 b o1 k1 nb).symm.trans q)
      rw [← e12]
      exact PySem.W.hideAll_get _ k1 (by simpa using nb)
    · refine Classical.byContradiction fun nx => ?_
      obtain ⟨⟨o2, q2⟩, nx2⟩ := old a o q nx
      exact nx2 (n1 o2 q2)
  have hfr0 : (compEnvC scope cells L X.env).frame = some L0 := hd.fr
  show wpAny _ _ (noteFrame (.ref a) (compEnvC scope cells L X.env)) _ _ s'
  rcases fh with fl | hh
  · refine looks_blk (env := env0) (outer := outer0) (L := L0) (hfr0.trans hf0.symm) (by rw [← hst]; exact I.ok.frames) hf0 (by rw [← hst]; exact fl) fun h1 hh1 up => key h1 (by rw [hst]; exact hh1) up
  · exact again_blk hfr0 hh (key s'.heap hh fun b o q _ => ⟨o.slots, q⟩)
end L2

namespace L2
open PySem PySem.Spec PyProof.Rows
section
variable {X : Cx} {scope : Scope}
/-! ### short forms of rules: what Lean finds by itself is left to it -/
theorem pe_kA {x : Str} {k j : Nat} {ps : List Str} {sp : Sp} {p pos : Pos} {e : Expr} {es : List Expr} {t : TA} (D : Kn X.prog X.w X.K X.mg X.base x k ps sp) (hr : Room j X.A) (ha : PA X (e :: es) t) (hj : k ≤ j := by decide) (hg : Gl X x := by rfl)
    (hdb : (x == ("__debug__" : Str)) = false := by decide) (he : starEach (e :: es) X.env = (false, eval e X.env) :: starEach es X.env := by rfl) (hpl : (backTo pos (starEach es X.env)).any (·.1) = false := by rfl) :
    PE X (.Call (.Name x p) (e :: es) [] pos) (tCall sp [] E0 t) := pe_kn D (hr.mono hj) hg ha hdb he hpl
theorem pe_cN {y : Str} {elt iter : Expr} {ifs : List Expr} {pos posn : Pos} {wi : TI} {tt : TT} {te : TE} (fre : List Str) (idx : List Nat) (hi : PI X (.Name y posn) iter wi)
    (hb : ∀ (L : Addr) (cells : List (Str × Addr)) (s₀ : Shared) (H₀ : Hp) (ex : List Addr) (pn : List (Addr × Obj)), PTs (blk X [y] fre scope L cells s₀ H₀ ex pn) ifs tt ∧ PE (blk X [y] fre scope L cells s₀ H₀ ex pn) elt te)
    (B : BlkOk X [y] fre idx scope := by exact ⟨rfl, rfl, rfl, rfl, rfl, rfl, by decide +kernel⟩) (hc : X.calm = true := by rfl)
    (hg : ∀ (L : Addr) (cells : List (Str × Addr)) (s₀ : Shared) (H₀ : Hp) (ex : List Addr) (pn : List (Addr × Obj)), PG (blk X [y] fre scope L cells s₀ H₀ ex pn) (.Name y posn) (gName 0) := by exact fun _ _ _ _ _ _ => pg_name (i := 0) (by dsimp only [blk]; decide) rfl (by first | exact Or.inl rfl | exact Or.inr rfl))
    (hs : ∀ x, foldedSetIterable iter X.env x = pure x := by intro _; rfl) : PE X (.ListComp elt [⟨.Name y posn, iter, ifs, 0⟩] scope pos) (tComp [y].length idx wi (gName 0) tt te) :=
  pe_comp [y] fre idx B hc hi (gown_name (Nat.zero_lt_one)) (fun a b c d e f => ⟨hg a b c d e f, hb a b c d e f⟩) hs
theorem ps_cN {y : Str} {elt iter : Expr} {ifs : List Expr} {pos pos' spos posn : Pos} {wi : TI} {tt : TT} {te : TE} (i : Nat) {x : Str} (hN : X.N.Nodup) (fre : List Str) (idx : List Nat) (hi : PI X (.Name y posn) iter wi)
    (hb : ∀ (L : Addr) (cells : List (Str × Addr)) (s₀ : Shared) (H₀ : Hp) (ex : List Addr) (pn : List (Addr × Obj)), PTs (blk X [y] fre scope L cells s₀ H₀ ex pn) ifs tt ∧ PE (blk X [y] fre scope L cells s₀ H₀ ex pn) elt te)
    (hi' : X.N[i]? = some x := by rfl) (hx : X.env.scope.names.lookup x = some .local := by rfl)
    (B : BlkOk X [y] fre idx scope := by exact ⟨rfl, rfl, rfl, rfl, rfl, rfl, by decide +kernel⟩) (hc : X.calm = true := by rfl)
    (hg : ∀ (L : Addr) (cells : List (Str × Addr)) (s₀ : Shared) (H₀ : Hp) (ex : List Addr) (pn : List (Addr × Obj)), PG (blk X [y] fre scope L cells s₀ H₀ ex pn) (.Name y posn) (gName 0) := by exact fun _ _ _ _ _ _ => pg_name (i := 0) (by dsimp only [blk]; decide) rfl (by first | exact Or.inl rfl | exact Or.inr rfl))
    (hsw : swapsWith (.ListComp elt [⟨.Name y posn, iter, ifs, 0⟩] scope pos) (some (.Name x pos')) spos.line X.env = pure true := by rfl)
    (hs : ∀ x, foldedSetIterable iter X.env x = pure x := by intro _; rfl) : PS X (.Assign [.Name x pos'] (.ListComp elt [⟨.Name y posn, iter, ifs, 0⟩] scope pos) spos) (tAsgC [y].length idx wi (gName 0) tt te i) :=
  ps_setC hN hi' hx [y] fre idx B hc hi (gown_name (Nat.zero_lt_one)) (fun a b c d e f => ⟨hg a b c d e f, hb a b c d e f⟩) hsw hs
theorem pe_iA {a b : Expr} {pos : Pos} {ta tb : TE} {r : R2} (hr : IxR X r) (ha : PE X a ta) (hb : PE X b tb) (hs : PlainIx b := by exact fun _ _ => rfl) : PE X (.Subscript a b pos) (tOp r ta tb) := pe_ix hr ha hb hs
end
end L2

namespace L2
open PySem PySem.Spec PyProof.Rows Nm
/-! ### comprehensions whose parts may raise -/
section
variable {X : Cx} {scope : Scope}
/-- a context that lets exceptions that meet E go on from a block -/
structure Lets (X : Cx) (L0 : Addr) (E : XK) : Prop where
  dp : Dp X L0
  out : ∀ e s', HeldX L0 X E e s' → X.xe e s'
noncomputable abbrev bw (X : Cx) (own fre : List Str) (scope : Scope) (L0 : Addr) (E : XK) (L : Addr) (cells : List (Str × Addr)) (s₀ : Shared) (H₀ : Hp) (ex : List Addr) (pn : List (Addr × Obj)) : Cx := (blk X own fre scope L cells s₀ H₀ ex pn).wish (XH L0 (blk X own fre scope L cells s₀ H₀ ex pn) E)
theorem Lets.blk {L0 : Addr} {E : XK} (h : Lets X L0 E) {own fre : List Str} {L : Addr} {cells : List (Str × Addr)} {s₀ : Shared} {H₀ : Hp} {ex : List Addr} {pn : List (Addr × Obj)} : Lets (bw X own fre scope L0 E L cells s₀ H₀ ex pn) L0 E :=
  ⟨⟨h.dp.st, h.dp.fr⟩, fun _ _ q => q.unwish.xh⟩
theorem bw_passes {L0 : Addr} {E : XK} {own fre : List Str} {L : Addr} {cells : List (Str × Addr)} {s₀ : Shared} {H₀ : Hp} {ex : List Addr} {pn : List (Addr × Obj)} : Passes (CX1 X.prog X.w) (bw X own fre scope L0 E L cells s₀ H₀ ex pn) E := blk_passes (Z := L2.blk X own fre scope L cells s₀ H₀ ex pn)
theorem pe_compX {elt tg iter : Expr} {ifs : List Expr} {pos : Pos} {wi : TI} {g : TG} {tt : TT} {te : TE} {L0 : Addr} {E : XK} (lt : Lets X L0 E) (own fre : List Str) (idx : List Nat) (B : BlkOk X own fre idx scope) (hc : X.calm = true) (hi : PI X tg iter wi) (hg : GOwn own.length g)
    (hb : ∀ (L : Addr) (cells : List (Str × Addr)) (s₀ : Shared) (H₀ : Hp) (ex : List Addr) (pn : List (Addr × Obj)), PG (bw X own fre scope L0 E L cells s₀ H₀ ex pn) tg g ∧ PTs (bw X own fre scope L0 E L cells s₀ H₀ ex pn) ifs tt ∧ PE (bw X own fre scope L0 E L cells s₀ H₀ ex pn) elt te)
    (hs : ∀ x, foldedSetIterable iter X.env x = pure x := by intro _; rfl) : PE X (.ListComp elt [⟨tg, iter, ifs, 0⟩] scope pos) (tComp own.length idx wi g tt te) := by
  intro pins s σ H Q I h
  rw [eval_ListComp]
  refine comp_runX (use := none) (fun L cells s₀ H₀ ex pn => XH L0 (L2.blk X own fre scope L cells s₀ H₀ ex pn) E) B hc hi hg hb (fun L D cells s₀ H₀ fp I hfp hL e s' h => blk_hx lt.dp lt.out L D cells s₀ H₀ fp I hfp hL e s' h) hs I h fun ys H' s' L D m hR hD I' hn nL fL => ?_
  refine ⟨m, hn, fun h' hs' => ?_⟩
  obtain ⟨f0, f1, f2, f3, f4, f5⟩ := fL
  exact ⟨.ref D, _, I'.turned (t' := s'.toks) (it := L) (fun b o hb e => hs'.extBut b o hb e) f0 f1 f3 f4 f5, rfl, hR D hD⟩
theorem ps_setCX {elt tg iter : Expr} {ifs : List Expr} {pos pos' spos : Pos} {wi : TI} {g : TG} {tt : TT} {te : TE} {i : Nat} {x : Str} {L0 : Addr} {E : XK} (lt : Lets X L0 E) (hN : X.N.Nodup) (hi' : X.N[i]? = some x) (hx : X.env.scope.names.lookup x = some .local) (own fre : List Str) (idx : List Nat) (B : BlkOk X own fre idx scope) (hc : X.calm = true) (hi : PI X tg iter wi) (hg : GOwn own.length g)
    (hb : ∀ (L : Addr) (cells : List (Str × Addr)) (s₀ : Shared) (H₀ : Hp) (ex : List Addr) (pn : List (Addr × Obj)), PG (bw X own fre scope L0 E L cells s₀ H₀ ex pn) tg g ∧ PTs (bw X own fre scope L0 E L cells s₀ H₀ ex pn) ifs tt ∧ PE (bw X own fre scope L0 E L cells s₀ H₀ ex pn) elt te)
    (hsw : swapsWith (.ListComp elt [⟨tg, iter, ifs, 0⟩] scope pos) (some (.Name x pos')) spos.line X.env = pure true := by rfl)
    (hs : ∀ x, foldedSetIterable iter X.env x = pure x := by intro _; rfl) : PS X (.Assign [.Name x pos'] (.ListComp elt [⟨tg, iter, ifs, 0⟩] scope pos) spos) (tAsgC own.length idx wi g tt te i) := by
  intro pins s σ H D I h
  rw [exec_Assign_Name_used _ _ _ _ hsw]
  refine wpAny_bind (wpAny_standAt (wpAny_bind ?_))
  show wpAny _ X.A (do let _ ← comprehension (.ListComp elt [⟨tg, iter, ifs, 0⟩] scope pos) scope X.env _ (newList []) false (eval iter X.env) (some (assign (.Name x pos') X.env))) _ _ s
  refine wpAny_bind (wpAny_mono (comp_runX (use := some (assign (.Name x pos') X.env)) (Q := fun _ s' => SP X pins D .next s') (fun L cells s₀ H₀ ex pn => XH L0 (L2.blk X own fre scope L cells s₀ H₀ ex pn) E) B hc hi hg hb (fun L D cells s₀ H₀ fp I hfp hL e s' h => blk_hx lt.dp lt.out L D cells s₀ H₀ fp I hfp hL e s' h) hs I h fun ys H' s' L Da m hR hD I' hn nL fL => ?_) (fun _ s' hq => wpAny_pure (wpAny_pure hq)) fun _ _ e => e)
  obtain ⟨f0, f1, f2, f3, f4, f5⟩ := fL
  show wpAny _ X.A (assign (.Name x pos') X.env (.ref Da)) _ _ _
  refine wpAny_assign_Name (store_ok2 I' hN hi' (.inl hx) (show RelV (.ref Da) (.ref Da) from rfl) (fun s2 I2 ⟨a, sb, ha⟩ => ?_) (.inr hx))
  have hLa : L ≠ a := by
    rcases ha with rfl | ha
    · exact f1
    · exact Ne.symm (f4 x a ha)
  refine ⟨m, hn.sameBut sb hLa, fun h' hs' => ?_⟩
  exact ⟨_, _, I2.turned (t' := s2.toks) (it := L) (fun b o hb e => hs'.extBut b o hb e) f0 f1 f3 f4 f5, hR Da hD⟩
/-- the same with one name -/
theorem pe_cX {y : Str} {elt iter : Expr} {ifs : List Expr} {pos posn : Pos} {wi : TI} {tt : TT} {te : TE} {L0 : Addr} {E : XK} (lt : Lets X L0 E) (fre : List Str) (idx : List Nat) (hi : PI X (.Name y posn) iter wi)
    (hb : ∀ (L : Addr) (cells : List (Str × Addr)) (s₀ : Shared) (H₀ : Hp) (ex : List Addr) (pn : List (Addr × Obj)), PTs (bw X [y] fre scope L0 E L cells s₀ H₀ ex pn) ifs tt ∧ PE (bw X [y] fre scope L0 E L cells s₀ H₀ ex pn) elt te)
    (B : BlkOk X [y] fre idx scope := by exact ⟨rfl, rfl, rfl, rfl, rfl, rfl, by decide +kernel⟩) (hc : X.calm = true := by rfl)
    (hg : ∀ (L : Addr) (cells : List (Str × Addr)) (s₀ : Shared) (H₀ : Hp) (ex : List Addr) (pn : List (Addr × Obj)), PG (bw X [y] fre scope L0 E L cells s₀ H₀ ex pn) (.Name y posn) (gName 0) := by exact fun _ _ _ _ _ _ => pg_name (i := 0) (by dsimp only [bw, L2.blk, Cx.wish]; decide) rfl (by first | exact Or.inl rfl | exact Or.inr rfl))
    (hs : ∀ x, foldedSetIterable iter X.env x = pure x := by intro _; rfl) : PE X (.ListComp elt [⟨.Name y posn, iter, ifs, 0⟩] scope pos) (tComp [y].length idx wi (gName 0) tt te) :=
  pe_compX lt [y] fre idx B hc hi (gown_name (Nat.zero_lt_one)) (fun a b c d e f => ⟨hg a b c d e f, hb a b c d e f⟩) hs
theorem ps_cX {y : Str} {elt iter : Expr} {ifs : List Expr} {pos pos' spos posn : Pos} {wi : TI} {tt : TT} {te : TE} {L0 : Addr} {E : XK} (lt : Lets X L0 E) (i : Nat) {x : Str} (hN : X.N.Nodup) (fre : List Str) (idx : List Nat) (hi : PI X (.Name y posn) iter wi)
    (hb : ∀ (L : Addr) (cells : List (Str × Addr)) (s₀ : Shared) (H₀ : Hp) (ex : List Addr) (pn : List (Addr × Obj)), PTs (bw X [y] fre scope L0 E L cells s₀ H₀ ex pn) ifs tt ∧ PE (bw X [y] fre scope L0 E L cells s₀ H₀ ex pn) elt te)
    (hi' : X.N[i]? = some x := by rfl) (hx : X.env.scope.names.lookup x = some .local := by rfl)
    (B : BlkOk X [y] fre idx scope := by exact ⟨rfl, rfl, rfl, rfl, rfl, rfl, by decide +kernel⟩) (hc : X.calm = true := by rfl)
    (hg : ∀ (L : Addr) (cells : List (Str × Addr)) (s₀ : Shared) (H₀ : Hp) (ex : List Addr) (pn : List (Addr × Obj)), PG (bw X [y] fre scope L0 E L cells s₀ H₀ ex pn) (.Name y posn) (gName 0) := by exact fun _ _ _ _ _ _ => pg_name (i := 0) (by dsimp only [bw, L2.blk, Cx.wish]; decide) rfl (by first | exact Or.inl rfl | exact Or.inr rfl))
    (hsw : swapsWith (.ListComp elt [⟨.Name y posn, iter, ifs, 0⟩] scope pos) (some (.Name x pos')) spos.line X.env = pure true := by rfl)
    (hs : ∀ x, foldedSetIterable iter X.env x = pure x := by intro _; rfl) : PS X (.Assign [.Name x pos'] (.ListComp elt [⟨.Name y posn, iter, ifs, 0⟩] scope pos) spos) (tAsgC [y].length idx wi (gName 0) tt te i) :=
  ps_setCX lt hN hi' hx [y] fre idx B hc hi (gown_name (Nat.zero_lt_one)) (fun a b c d e f => ⟨hg a b c d e f, hb a b c d e f⟩) hsw hs
end
section
variable {P : Program} {w : World} {K : PySem.W.Frag} {mg : Str → Option Value} {base : Heap}
/-- a def's body lets them pass -/
theorem lets_of {N : List Str} {qual : Str} {scope : Scope} {f : Addr} {cd : Value} {A : Around} {outer : List Env} {s : Shared} {H : Hp} {E : XK} : Lets (cxOf (CX1 P w) P w K mg base N qual scope f cd A outer s H E) s.heap.objs.size E := by
  refine ⟨⟨⟨_, _, rfl, rfl⟩, rfl⟩, fun e s' h => ?_⟩
  obtain ⟨pins, σ, H2, a, C, b1, t, rfl, I, hh, kb, n1, n2, hE⟩ := h
  refine leave_held I hh (fun b o q c n => kb b o q (c.imp (fun z => ⟨z, by show b ∉ ([] : List Addr); simp⟩) id) n) ?_ n2 hE
  cases q : s.heap.get? a with
  | none => rfl
  | some o => exact absurd (show a ∈ ([] : List Addr) from n1 o q) (by simp)
end
end L2

namespace L2
open PySem PySem.Spec PyProof.Rows Nm
section
variable {X : Cx} {x f : Str} {B C : Addr} {p2 cpos apos np pos hp npos : Pos} {e : Expr} {es : List Expr} {ta : TA} {i j k : Nat} {y z : Str} {ps : List Str} {sp : Sp} {b₀ : Stmt} {suite : List Stmt} {ts : TS}
/-! ### try: z = f(..) except B as y: suite -/
noncomputable def tTryS (sp : Sp) (C : Addr) (j i : Nat) (ta : TA) (ts : TS) : TS := fun D σ H => ta σ H fun vs H1 => sp vs H1 (fun v H2 => D.nx (σ.set j (some v)) H2) fun c _ H2 => c = .ref C ∧ ∀ a, H2 a = none → ts { nx := fun σ' H' => D.nx (σ'.set i none) H', rt := fun _ _ => False } (σ.set i (some (.ref a))) (upd H2 a (.ext (ExAt a C)))
theorem ps_tryS (D : Kx X.prog X.w X.K X.mg X.base f k ps sp) (hr : Room k X.A) (hg : Gl X f) (cb : X.mg x = some (.ref B)) (eb : Eb X.K B C) (hgx : Gl X x) (ha : PA X.nox (e :: es) ta) (hN : X.N.Nodup) (hi : X.N[i]? = some y) (hk : X.env.scope.names.lookup y = some .local) (hj : X.N[j]? = some z) (hz : Loc X.env.scope z) (hs : ∀ v, PSs (X.marked v) (b₀ :: suite) ts)
    (hst : X.stack = X.env :: X.outer := by rfl) (hfr : X.env.frame = some X.env.locals := by rfl) (hex : X.ex = [] := by rfl) (hf : X.fn z = true ∨ X.env.scope.names.lookup z = some .local := by first | exact .inl rfl | exact .inr rfl | assumption)
    (hsw : swapsWith (.Call (.Name f p2) (e :: es) [] cpos) (some (.Name z np)) apos.line X.env = pure false := by rfl)
    (hdb : (f == ("__debug__" : Str)) = false := by decide) (hdx : (x == ("__debug__" : Str)) = false := by decide) (he : starEach (e :: es) X.env = (false, eval e X.env) :: starEach es X.env := by rfl) (hpl : (backTo cpos (starEach es X.env)).any (·.1) = false := by rfl) :
    PS X (.Try [.Assign [.Name z np] (.Call (.Name f p2) (e :: es) [] cpos) apos] [.ExceptHandler (some (.Name x npos)) (some y) (b₀ :: suite) hp] [] [] pos) (tTryS sp C j i ta ts) := by
  intro pins s σ H Dn I h
  obtain ⟨fa, fd, F, hm, hkp, hb⟩ := D.ex
  refine wpAny_Try_except (wpAny_execs_cons (wpAny_Assign_Name (wpAny_Call_Name_kw (ld_glob I hg hm ?_ hdb)) hsw))
  refine PySem.W.callWith_K (h₀ := X.base) I.ok.mod.kin hkp (wpAny_mono (ha cpos pins s σ H _ (I.wish _) h) (fun us s1 ⟨vs, H1, I1', r, q⟩ => ?_) fun _ _ z => z.elim) he hpl
  have I1 : Inv X pins σ H1 s1 := I1'.unwish
  refine ⟨I1.kIn, ?_⟩
  have hl : us.length = ps.length := by rw [← r.length]; exact F.len _ _ _ _ q
  have hbn := hb s1 us I1.kIn (by rw [List.append_nil]; exact hl)
  rw [List.append_nil] at hbn
  refine wpAny_call (codeAny_mono (F.run X.A X.stack s1 H1 ⟨us, []⟩ us vs _ _ hr I1.env0 hbn r q) fun rr s2 hq => ?_)
  cases rr with
  | error ex =>
    obtain ⟨a, C', H2, b1, rfl, ho, hgb, Fl, hC, hT⟩ := hq
    cases hC
    obtain ⟨t, fl⟩ := Fl.fl
    rw [hst] at fl
    refine wpAny_looks_onW (outer := X.outer) (L := X.env.locals) (by rw [I1.ok.frames, hst]) hfr fl fun h1 hh1 u1 => ?_
    refine wpAny_landsW hh1 fun h2 fl2 u2 => ?_
    have F2 : Fly X.prog X.w X.stack H1 s1 H2 b1 a C h2 := Fl.step fl2.1 ⟨t, by rw [hst]; exact fl2⟩ (u1.trans u2)
    have I2 : Inv X pins σ H2 { s2 with heap := h2 } := Fly.inv (s' := { s2 with heap := h2 }) F2 I1 ho hgb
    refine wpAny_handleBy_cons (codeAny_handlers_test ?_) (by intro z; cases z)
    refine ld_glob (X := X.marked (some (.ref a))) I2.mark hgx cb ?_ hdx
    refine exc_matches I2.kIn fl2.there eb ?_
    refine codeAny_handlers_suite_as (lands_againW fl2 fun h3 fl3 u3 => ?_)
    have F3 : Fly X.prog X.w X.stack H1 s1 H2 b1 a C h3 := F2.step fl3.1 ⟨t, by rw [hst]; exact fl3⟩ u3
    have I3 : Inv X pins σ H2 { s2 with heap := h3 } := Fly.inv (s' := { s2 with heap := h3 }) F3 I1 ho hgb
    have K3 := Inv.know I1 I3 F3.new.1 F3.new.2 hex (ext_ok (a := a) (C := C) fl3.there)
    refine store_ok (X := X.marked (some (.ref a))) (v := .ref a) K3.mark hN hi (.inl hk) rfl (fun s4 I4 => ?_) (.inr hk)
    refine wpAny_mono (hs (some (.ref a)) pins s4 _ _ _ I4 (hT a F3.new.2)) (fun fl s5 z => ?_) fun _ _ z => z.elim
    cases fl with
    | next =>
      obtain ⟨σ', H', I5, q5⟩ := z
      exact goes_ok (I5.unmark I.ok) hN hi hk fun s6 I6 => ⟨_, _, I6, q5⟩
    | brk => obtain ⟨_, _, _, q5⟩ := z; exact q5.elim
    | cont => obtain ⟨_, _, _, q5⟩ := z; exact q5.elim
    | ret u => obtain ⟨_, _, _, _, _, q5⟩ := z; exact q5.elim
  | ok fl =>
    cases fl with
    | ret u =>
      obtain ⟨v, H2, I2, rv, qv⟩ := I1.after hq
      refine store_ok I2 hN hj hz rv (fun s3 I3 => wpAny_execs_nil (wpAny_execs_nil ⟨_, H2, I3, qv⟩)) hf
    | next => exact False.elim hq
    | brk => exact False.elim hq
    | cont => exact False.elim hq
end
/-! ### None in a list of data -/
section
variable {X : Cx}
noncomputable def rInN : R2 := fun x y H Q => ∃ (p : Addr) (xs : List V), x = .non ∧ y = .ref p ∧ H p = some (.lst xs) ∧ (∀ v ∈ xs, ∃ d, Rp H d v ∧ d.canLay0 = true ∧ PyData.eqv d .none = decide (v = .non)) ∧ Q (.bl (xs.any fun v => decide (v = .non))) H
theorem none_rp {H : Hp} : Rp H .none .non := by simp only [Rp]
theorem any_none : ∀ {xs : List V} {us : List Value}, Vals xs us → (us.any fun w => w == Value.none) = xs.any fun v => decide (v = .non)
  | _, _, .nil => rfl
  | y :: xs, u :: us, .cons r t => by rw [List.any_cons, List.any_cons, any_none t, r.none_iff]
theorem vals_mem : ∀ {xs : List V} {us : List Value}, Vals xs us → ∀ w ∈ us, ∃ v ∈ xs, RelV v w
  | _, _, .nil, w, h => nomatch h
  | y :: xs, u :: us, .cons r t, w, h => by
    rcases List.mem_cons.mp h with rfl | h
    · exact ⟨y, List.mem_cons_self, r⟩
    · obtain ⟨v, hv, rv⟩ := vals_mem t w h
      exact ⟨v, List.mem_cons_of_mem _ hv, rv⟩
theorem op_inN {k : Nat} (hr : Room k X.A) : OpR X (compareOp .In) rInN := by
  intro pins s σ H x y v u Q I rx ry h
  obtain ⟨p, xs, rfl, rfl, hp, hd, q⟩ := h
  cases (show u = Value.ref p from ry)
  cases (show v = Value.none from rx)
  obtain ⟨its, r, pl, hz⟩ := I.list (SqL.of (K := X.K) hp)
  refine SeqAt.in_listAt (fun w => w == Value.none) pl.isList (fun w hw prog wd E Q' hq => ?_) ⟨.bl _, H, I, rfl, ?_⟩
  · obtain ⟨v, hv, rv⟩ := vals_mem r w (by simpa using hw)
    obtain ⟨d, rd, cd, ed⟩ := hd v hv
    obtain ⟨as, ra⟩ := Rp.reads I d v w rd rv
    obtain ⟨bs, rb⟩ := Rp.reads I .none .non .none none_rp rfl
    refine SeqAt.eqBoolOverData prog wd X.A.in1 _ s _ _ d .none as bs _ ra rb cd (by decide) ?_ (by rw [ed, ← rv.none_iff]; exact hq)
    have := hr.un
    show X.A.units + 1 + min d.depth (PyData.none).depth < cLine
    have := Nat.min_le_right d.depth (PyData.none).depth
    have : (PyData.none).depth ≤ 1 := by decide
    (first | lia | omega)
  · rw [show its.toArray.any (fun w => w == Value.none) = its.any (fun w => w == Value.none) by simp, any_none r]
    exact q
/-! ### a long list of constants -/
inductive ConEs : List Expr → List V → Prop
  | nil : ConEs [] []
  | int {i : Int} {j : Nat} {pos : Pos} {es : List Expr} {vs : List V} : ConEs es vs → ConEs (.Constant (.int i) j pos :: es) (.int i :: vs)
  | str {x : Str} {j : Nat} {pos : Pos} {es : List Expr} {vs : List V} : ConEs es vs → ConEs (.Constant (.str x) j pos :: es) (.str x :: vs)
  | non {j : Nat} {pos : Pos} {es : List Expr} {vs : List V} : ConEs es vs → ConEs (.Constant .none j pos :: es) (.non :: vs)
noncomputable def tConV (vs : List V) : TA := fun _ H Q => Q vs H
theorem pa_conV {es : List Expr} (vs : List V) (h : ConEs es vs) : PA X es (tConV vs) := by
  induction h with
  | nil => exact pa_nil
  | @int i j pos es ms _ ih => exact pa_cons (te := tC (.int i)) (t := tConV ms) pe_int ih rfl
  | @str i j pos es ms _ ih => exact pa_cons (te := tC (.str i)) (t := tConV ms) pe_str ih rfl
  | @non j pos es ms _ ih => exact pa_cons (te := tC .non) (t := tConV ms) pe_non ih rfl
end
/-! ### the classes of a law that asks for NoText -/
structure ExT (K : PySem.W.Frag) (mg : Str → Option Value) (C B D1 D2 D3 : Addr) : Prop where
  c : Ec K mg "NoText" C
  ek : Ek K C
  b : mg "MillError" = some (.ref B)
  eb : Eb K B C
  d1 : mg "NoBack" = some (.ref D1)
  d2 : mg "NoName" = some (.ref D2)
  d3 : mg "NoRow" = some (.ref D3)
  no : PySem.W.kitAny K (.ref C) [.ref D1, .ref D2, .ref D3] = some false
  ve : PySem.W.kitOne K (.ref C) (.type "ValueError") = some true
theorem ext_mk {K : PySem.W.Frag} {mg : Str → Option Value} {h : Heap} {C B D1 D2 D3 : Addr} (X : K.In h) (G : h.Ns mainGlobals mg) (a : PySem.W.nsIn K mainGlobals "NoText" = some (some (.ref C))) (a1 : PySem.W.nsIn K mainGlobals "MillError" = some (some (.ref B)))
    (a2 : PySem.W.nsIn K mainGlobals "NoBack" = some (some (.ref D1))) (a3 : PySem.W.nsIn K mainGlobals "NoName" = some (some (.ref D2))) (a4 : PySem.W.nsIn K mainGlobals "NoRow" = some (some (.ref D3)))
    (b : PySem.W.excIn K C [Value.type "ValueError", Value.type "Exception", Value.type "BaseException", Value.type "object"] "ValueError.__new__" = true)
    (k1 : PySem.W.findIn K (.ref C) "__getattribute__" = some (some (.builtin "BaseException.__getattribute__"))) (k2 : PySem.W.findIn K (.ref C) "__getattr__" = some none) (k3 : PySem.W.findIn K (.ref C) "__class__" = some (some (.builtin "object.__class__")))
    (k4 : PySem.W.specialIn K (.builtin "object.__class__") "__get__" = some (some (.builtin "getset_descriptor.__get__"))) (k5 : PySem.W.takesIn K (.builtin "object.__class__") = some true) (k6 : PySem.W.mroIn K C (.type "BaseException") = some true) (k7 : PySem.W.mroIn K C (.type "object") = some true)
    (e1 : PySem.W.typeIn K (.ref B) = some (.type "type")) (e2 : PySem.W.mroIn K B (.type "BaseException") = some true) (e3 : PySem.W.mroIn K C (.ref B) = some true) (no : PySem.W.kitAny K (.ref C) [.ref D1, .ref D2, .ref D3] = some false) (ve : PySem.W.kitOne K (.ref C) (.type "ValueError") = some true) :
    ∃ C B D1 D2 D3, ExT K mg C B D1 D2 D3 :=
  ⟨C, B, D1, D2, D3, ⟨PySem.W.mg_of X G a, b⟩, ⟨k1, k2, k3, k4, k5, k6, k7⟩, PySem.W.mg_of X G a1, ⟨e1, e2, e3⟩, PySem.W.mg_of X G a2, PySem.W.mg_of X G a3, PySem.W.mg_of X G a4, no, ve⟩
end L2

namespace Tx
open PySem PySem.NumText L2 Builtin Builtin.Str PyProof.Rows Nm
noncomputable abbrev cl (x : Str) : List Nat := x.cps.toList
theorem cl_app (a b : Str) : cl (a ++ b) = cl a ++ cl b := by
  show (a.cps ++ b.cps).toList = _
  simp
theorem cl_inj {a b : Str} (h : cl a = cl b) : a = b := PyProof.Rows.str_of_list h
theorem cl_len (x : Str) : (cl x).length = x.length := len_list x
theorem dec_len {n k : Nat} (hk : 1 ≤ k) (h : n < 10 ^ k) : (dec n).length ≤ k := by
  unfold dec
  rw [List.length_map]
  exact toDigits_len_pow (by decide) hk h
theorem shI_len {i : Int} {k : Nat} (hk : 1 ≤ k) (h : i.natAbs < 10 ^ k) : (shI i).length ≤ k + 1 := by
  have := dec_len hk h
  unfold shI
  split
  · show (dec i.natAbs).length + 1 ≤ _; (first | lia | omega)
  · (first | lia | omega)
noncomputable def shN : Nb → List Nat
  | .q r => shQ r
  | .z i => shI i
noncomputable def SmN (x : Nb) : Prop := match x with
  | .q r => r.num.natAbs < 10 ^ 21 ∧ r.den < 10 ^ 21
  | .z i => i.natAbs < 10 ^ 21
theorem shN_len {x : Nb} (h : SmN x) : (shN x).length ≤ 45 := by
  cases x with
  | z i => exact Nat.le_trans (shI_len (k := 21) (by decide) h) (by decide)
  | q r =>
    have h1 := shI_len (k := 21) (by decide) h.1
    have h2 := dec_len (k := 21) (by decide) h.2
    show (shI r.num ++ if r.den = 1 then [] else 47 :: dec r.den).length ≤ 45
    rw [List.length_append]
    split
    · show _ + 0 ≤ 45; (first | lia | omega)
    · show _ + ((dec r.den).length + 1) ≤ 45; (first | lia | omega)
noncomputable def joinN (sep : List Nat) : List (List Nat) → List Nat
  | [] => []
  | [a] => a
  | a :: b :: r => a ++ sep ++ joinN sep (b :: r)
theorem cl_sjoin (sep : Str) : ∀ xs : List Str, cl (sep.join xs) = joinN (cl sep) (xs.map cl)
  | [] => rfl
  | [a] => rfl
  | a :: b :: r => by
    rw [join_cons_cons, cl_app, cl_app, cl_sjoin sep (b :: r)]; rfl
theorem cl_join (sep : Str) (xs : List Str) : cl (Txt.join sep xs) = joinN (cl sep) (xs.map cl) := by
  show cl (glued sep xs) = _
  rw [StrLaws.glued_eq_join]; exact cl_sjoin sep xs
theorem joinN_len {sep : List Nat} {m : Nat} : ∀ {l : List (List Nat)}, (∀ a ∈ l, a.length ≤ m) → (joinN sep l).length ≤ l.length * (m + sep.length)
  | [], _ => Nat.zero_le _
  | [a], h => by
    have := h a List.mem_cons_self
    show a.length ≤ 1 * (m + sep.length); (first | lia | omega)
  | a :: b :: r, h => by
    have h1 := h a List.mem_cons_self
    have h2 := joinN_len (sep := sep) (m := m) (l := b :: r) fun x hx => h x (List.mem_cons_of_mem _ hx)
    show (a ++ sep ++ joinN sep (b :: r)).length ≤ ((b :: r).length + 1) * (m + sep.length)
    rw [List.length_append, List.length_append, Nat.add_mul, Nat.one_mul]; (first | lia | omega)
theorem join_ok {sep : Str} {xs : List Str} (h1 : xs.length ≤ 500) (h2 : ∀ x ∈ xs, x.length ≤ 33000) (h3 : sep.length ≤ 500) : JoinOk sep xs = true := by
  have e := joinOk_few (sep := sep) (as := xs) (pz := fun _ => true) (f := fun s => if s.length ≤ 33000 then s else Str.empty) h1 (fun a => by
    split
    · assumption
    · exact Nat.zero_le _) h3
  have e2 : List.map (fun s : Str => if s.length ≤ 33000 then s else Str.empty) (List.filter (fun _ => true) xs) = xs := by
    rw [List.filter_eq_self.mpr (fun _ _ => rfl)]
    conv => rhs; rw [← List.map_id xs]
    exact List.map_congr_left fun s hs => if_pos (h2 s hs)
  rw [e2] at e
  exact e
noncomputable def shRow (r : List Nb) : List Nat := joinN [32] (r.map shN)
noncomputable def shT (M : List (List Nb)) : List Nat := joinN [59, 32] (M.map shRow)
theorem shRow_len {r : List Nb} (h : ∀ x ∈ r, SmN x) (hl : r.length ≤ 13) : (shRow r).length ≤ 598 := by
  have := joinN_len (sep := [32]) (m := 45) (l := r.map shN) fun a ha => by
    obtain ⟨x, hx, rfl⟩ := List.mem_map.mp ha
    exact shN_len (h x hx)
  rw [List.length_map] at this
  exact Nat.le_trans this (Nat.le_trans (Nat.mul_le_mul_right _ hl) (by decide))
theorem shT_len {M : List (List Nb)} (h : ∀ r ∈ M, r.length ≤ 13 ∧ ∀ x ∈ r, SmN x) (hl : M.length ≤ 13) : (shT M).length ≤ 7800 := by
  have := joinN_len (sep := [59, 32]) (m := 598) (l := M.map shRow) fun a ha => by
    obtain ⟨x, hx, rfl⟩ := List.mem_map.mp ha
    exact shRow_len (h x hx).2 (h x hx).1
  rw [List.length_map] at this
  exact Nat.le_trans this (Nat.le_trans (Nat.mul_le_mul_right _ hl) (by decide))
/-! splitting -/
theorem split_part {x y p : Str} (h : p ∈ Txt.split x y) : p.length ≤ x.length := by
  have e := StrLaws.join_split x y
  have s := len_join_ge_sum y (Txt.split x y)
  have e2 : Txt.join y (Txt.split x y) = x := by
    show glued y _ = x
    rw [StrLaws.glued_eq_join]; exact e
  rw [e2] at s
  have : ∀ l : List Str, p ∈ l → p.length ≤ (l.map fun x => x.length).sum := by
    intro l
    induction l with
    | nil => intro h; cases h
    | cons a l ih =>
      intro h
      rw [List.map_cons, List.sum_cons]
      rcases List.mem_cons.mp h with rfl | h
      · (first | lia | omega)
      · have := ih h; (first | lia | omega)
  exact Nat.le_trans (this _ h) s
theorem split_sz {x y : Str} (hx : x.length ≤ 100000) : (partsBetween x (occurrences x y 0 x.length (x.length + 1)) y.length).length ≤ sizeLine ∧ (Txt.split x y).length ≤ sizeLine := by
  have szl : sizeLine = 16777216 := by decide
  have h1 := StrLaws.occ_length_le x y 0 x.length (x.length + 1)
  have h2 := len_partsBetween x (occurrences x y 0 x.length (x.length + 1)) y.length
  have h3 := (fact_split x y).2
  (first | lia | omega)
/-! numbers -/
/-- the program's reading of a word, and the law's -/
noncomputable def rdN (k : Int) (w : List Nat) : Option Nb := if k = 0 then (rdQ w).map Nb.q else (rdR k.toNat w).map fun n => Nb.z (n : Int)
noncomputable def tdN (k : Int) (w : List Nat) : Option Nb := if k = 0 then (tdQ w).map Nb.q else (tdR k.toNat w).map fun n => Nb.z (n : Int)
theorem rd_td {k : Int} (hk : k = 0 ∨ (1 < k ∧ k < 99)) (w : List Nat) : rdN k w = tdN k w := by
  unfold rdN tdN
  rw [rdQ_tdQ]
  rcases hk with rfl | ⟨h1, h2⟩
  · rfl
  · rw [if_neg (by (first | lia | omega)), if_neg (by (first | lia | omega)), rdR_tdR (by (first | lia | omega)) (by (first | lia | omega))]
/-- the table that readable rows tell -/
noncomputable def okT (W : List (List (Option Nb))) : Option (List (List Nb)) :=
  if (∀ r ∈ W, (∀ x ∈ r, x ≠ none) ∧ r.length = (W.headD []).length) ∧ (W.headD []).length ≤ 12 ∧ W.length ≤ 12 then some (W.map fun r => r.map fun x => x.getD (.z 0)) else none
/-- the words of a text -/
noncomputable def wordsT (x : Str) : List (List Str) := (Txt.split x (Str.ofString "; ")).map fun p => Txt.split p (Str.ofString " ")
noncomputable def tdT (k : Int) (x : Str) : Option (List (List Nb)) := okT ((wordsT x).map fun r => r.map fun w => tdN k (cl w))
end Tx

namespace L2
open PySem PySem.Spec PyProof.Rows Nm Tx
theorem log_lt {n : Nat} (h : n < 10 ^ 64) : n.log2 < 1920 := by
  by_cases z : n = 0
  · rw [z]; decide
  · exact (Nat.log2_lt z).mpr (Nat.lt_of_lt_of_le h (Nat.le_trans (show 10 ^ 64 ≤ 2 ^ 250 by decide) (Nat.pow_le_pow_right (by decide) (by decide))))
theorem p21_64 {n : Nat} (h : n < 10 ^ 21) : n < 10 ^ 64 := Nat.lt_trans h (by decide)
theorem len_ofStr (i : Int) (h : i.natAbs < 10 ^ 21) : (Str.ofString (toString i)).length ≤ 22 := by
  rw [← cl_len, show cl (Str.ofString (toString i)) = shI i from sh_str i]
  exact shI_len (k := 21) (by decide) h
section
variable {X : Cx}
/-- str of a number of the kind -/
noncomputable def rStrA : List V → Hp → VK → Prop := fun xs H Q => ∃ (x : Nb) (v : V), xs = [v] ∧ RN H x v ∧ SmN x ∧ (∀ i, x = .z i → Q (.str (Str.ofString (toString i))) H) ∧ (∀ r, x = .q r → ∀ s, Q (.str s) H)
theorem call_strA {k : Nat} (hr : Room k X.A) : CallR X (.type "str") rStrA := by
  intro pins s σ H xs us Q I r h
  obtain ⟨x, v, rfl, hx, sm, q1, q2⟩ := h
  cases x with
  | z i =>
    have hv : v = .int i := by
      have hx' : Rp H (.int i) v := hx
      simpa only [Rp] using hx'
    subst hv
    exact call_str_int pins s σ H [.int i] us Q I r ⟨i, rfl, log_lt (p21_64 sm), q1 i rfl⟩
  | q t =>
    have hx' : Rp H (.tuple [.int t.num, .int (t.den : Int)]) v := hx
    obtain ⟨a, hv⟩ : ∃ a, v = .ref a := by
      unfold Rp at hx'
      obtain ⟨a, vs, h1, _⟩ := hx'
      exact ⟨a, h1⟩
    subst hv
    obtain ⟨u, rfl, ru⟩ := vals1 r
    cases (show u = Value.ref a from ru)
    obtain ⟨as, rd⟩ := Rp.reads I _ _ _ hx' rfl
    have hs : (PyData.tuple [.int t.num, .int (t.den : Int)]).showable = true := by
      show (decide (t.num.natAbs.log2 < 1920) && (decide ((t.den : Int).natAbs.log2 < 1920) && true)) = true
      rw [decide_eq_true (log_lt (p21_64 sm.1)), decide_eq_true (log_lt (p21_64 (show (t.den : Int).natAbs < 10 ^ 21 from sm.2)))]; rfl
    have hl : (PyData.tuple [.int t.num, .int (t.den : Int)]).shown.length ≤ sizeLine := by
      show (tupleText [Str.ofString (toString t.num), Str.ofString (toString (t.den : Int))]).length ≤ sizeLine
      unfold tupleText
      rw [← cl_len, cl_app, cl_app, cl_sjoin, List.length_append, List.length_append]
      have l1 := len_ofStr t.num sm.1
      have l2 := len_ofStr (t.den : Int) sm.2
      have e : joinN (cl (Str.ofString ", ")) ([Str.ofString (toString t.num), Str.ofString (toString (t.den : Int))].map cl) = cl (Str.ofString (toString t.num)) ++ cl (Str.ofString ", ") ++ cl (Str.ofString (toString (t.den : Int))) := rfl
      rw [e, List.length_append, List.length_append, cl_len, cl_len, cl_len, cl_len, cl_len]
      have a1 : (Str.ofString "(").length = 1 := by decide +kernel
      have a2 : (Str.ofString ", ").length = 2 := by decide +kernel
      have a3 : (Str.ofString (if ([Str.ofString (toString t.num), Str.ofString (toString (t.den : Int))].length == 1) = true then ",)" else ")")).length = 1 := by
        rw [if_neg (by simp)]
        decide +kernel
      have szl : sizeLine = 16777216 := by decide
      rw [a1, a2, a3]; (first | lia | omega)
    have un := hr.un
    refine str_of_reads rd hs (fun z => absurd z (by show ¬ (false = true); decide)) hr.gd ?_ (fun b o q => q) (fun h' u tk keep => ⟨.str _, H, I.kept (h' := h') (t' := tk) keep, ⟨_, rfl⟩, q2 t rfl _⟩) hl
    have dp : (PyData.tuple [.int t.num, .int (t.den : Int)]).depth ≤ 3 := by simp only [PyData.depth, PyData.depthAll]; (first | lia | omega)
    (first | lia | omega)
/-! ### methods of strs, with readings that do not name the fragment -/
theorem mt_join0 : MtR X "str.join" (fun x vs H Q => ∃ a l ys, x = .str a ∧ vs = [.ref l] ∧ H l = some (.lst (ys.map V.str)) ∧ JoinOk a ys = true ∧ Q (.str (Txt.join a ys)) H) := by
  intro pins s σ H x vs v us Q I rx rv h
  obtain ⟨a, l, ys, h1, h2, h3, h4, h5⟩ := h
  exact mt_join pins s σ H x vs v us Q I rx rv ⟨a, l, ys, h1, h2, SqL.of h3, h4, h5⟩
end
end L2

namespace Tx
open PySem PySem.NumText L2 Builtin Builtin.Str PyProof.Rows Nm
noncomputable def rdT (k : Int) (x : Str) : Option (List (List Nb)) := okT ((wordsT x).map fun r => r.map fun w => rdN k (cl w))
theorem rdT_tdT {k : Int} (hk : k = 0 ∨ (1 < k ∧ k < 99)) (x : Str) : rdT k x = tdT k x := by
  unfold rdT tdT
  congr 1
  exact List.map_congr_left fun r _ => List.map_congr_left fun w _ => rd_td hk (cl w)
theorem okT_none {W : List (List (Option Nb))} {r : List (Option Nb)} (hr : r ∈ W) (hx : none ∈ r) : okT W = none := if_neg fun z => ((z.1 r hr).1 none hx) rfl
theorem okT_all (M : List (List Nb)) : okT (M.map fun r => r.map some) = if (∀ r ∈ M, r.length = (M.headD []).length) ∧ (M.headD []).length ≤ 12 ∧ M.length ≤ 12 then some M else none := by
  have hh : ((M.map fun r => r.map some).headD ([] : List (Option Nb))).length = (M.headD []).length := by
    cases M with
    | nil => rfl
    | cons a r => show (a.map some).length = a.length; rw [List.length_map]
  have em : ((M.map fun r => r.map some).map fun r => r.map fun x : Option Nb => x.getD (.z 0)) = M := by
    rw [List.map_map]
    conv => rhs; rw [← List.map_id M]
    refine List.map_congr_left fun r _ => ?_
    show (r.map some).map _ = r
    rw [List.map_map]
    conv => rhs; rw [← List.map_id r]
    exact List.map_congr_left fun x _ => rfl
  unfold okT
  rw [hh, em, List.length_map]
  congr 1
  rw [eq_iff_iff]
  constructor
  · rintro ⟨h1, h2⟩
    refine ⟨fun r hr => ?_, h2⟩
    have := (h1 _ (List.mem_map.mpr ⟨r, hr, rfl⟩)).2
    rwa [List.length_map] at this
  · rintro ⟨h1, h2⟩
    refine ⟨fun r hr => ?_, h2⟩
    obtain ⟨r', hr', rfl⟩ := List.mem_map.mp hr
    refine ⟨fun x hx => ?_, by rw [List.length_map]; exact h1 r' hr'⟩
    obtain ⟨y, _, rfl⟩ := List.mem_map.mp hx
    exact fun z => nomatch z
theorem words_pos (x : Str) : 1 ≤ (wordsT x).length := by
  unfold wordsT
  rw [List.length_map]; exact (fact_split x _).1
end Tx

namespace KL
open PySem PySem.Spec PySem.NumText PyProof.Rows L2 Nm Tx
set_option maxHeartbeats 4000000
noncomputable def top (i : Nat) : Stmt := PySem.Challenge.pw_steermill_k91_tables_as_texts.main.body.getD i (.Pass ⟨0, 0, 0, 0⟩)
noncomputable abbrev s_common_divisor : Stmt := top 7
theorem sc_common_divisor : FnScope ["one", "other", "left", "right", "rest"] ["one", "other"] (defScope s_common_divisor) := ⟨rfl, rfl, rfl, by decide +kernel, rfl, by decide +kernel, by decide +kernel⟩
noncomputable abbrev s_fraction : Stmt := top 8
theorem sc_fraction : FnScope ["top", "bottom", "divisor"] ["top", "bottom"] (defScope s_fraction) := ⟨rfl, rfl, rfl, by decide +kernel, rfl, by decide +kernel, by decide +kernel⟩
noncomputable abbrev s_number : Stmt := top 9
theorem sc_number : FnScope ["kind", "whole"] ["kind", "whole"] (defScope s_number) := ⟨rfl, rfl, rfl, by decide +kernel, rfl, by decide +kernel, by decide +kernel⟩
noncomputable abbrev s_show_whole : Stmt := top 18
theorem sc_show_whole : FnScope ["whole", "stretch", "left", "told", "sign"] ["whole"] (defScope s_show_whole) := ⟨rfl, rfl, rfl, by decide +kernel, rfl, by decide +kernel, by decide +kernel⟩
noncomputable abbrev s_show_number : Stmt := top 19
theorem sc_show_number : FnScope ["kind", "told"] ["kind", "told"] (defScope s_show_number) := ⟨rfl, rfl, rfl, by decide +kernel, rfl, by decide +kernel, by decide +kernel⟩
noncomputable abbrev s_show_table : Stmt := top 20
theorem sc_show_table : FnScope ["kind", "table", "rows"] ["kind", "table"] (defScope s_show_table) := ⟨rfl, rfl, rfl, by decide +kernel, rfl, by decide +kernel, by decide +kernel⟩
noncomputable abbrev s_read_whole : Stmt := top 21
theorem sc_read_whole : FnScope ["word", "figures"] ["word"] (defScope s_read_whole) := ⟨rfl, rfl, rfl, by decide +kernel, rfl, by decide +kernel, by decide +kernel⟩
noncomputable abbrev s_read_fraction : Stmt := top 22
theorem sc_read_fraction : FnScope ["word", "halves", "bottom"] ["word"] (defScope s_read_fraction) := ⟨rfl, rfl, rfl, by decide +kernel, rfl, by decide +kernel, by decide +kernel⟩
noncomputable abbrev s_read_number : Stmt := top 23
theorem sc_read_number : FnScope ["kind", "word", "told"] ["kind", "word"] (defScope s_read_number) := ⟨rfl, rfl, rfl, by decide +kernel, rfl, by decide +kernel, by decide +kernel⟩
noncomputable abbrev s_read_table : Stmt := top 24
theorem sc_read_table : FnScope ["kind", "text", "table", "width"] ["kind", "text"] (defScope s_read_table) := ⟨rfl, rfl, rfl, by decide +kernel, rfl, by decide +kernel, by decide +kernel⟩
noncomputable abbrev s__law_mix : Stmt := top 26
theorem sc__law_mix : FnScope ["_law_cell", "_law_j", "_law_mixed"] ["_law_cell", "_law_j"] (defScope s__law_mix) := ⟨rfl, rfl, rfl, by decide +kernel, rfl, by decide +kernel, by decide +kernel⟩
noncomputable abbrev s__law_divisor : Stmt := top 27
theorem sc__law_divisor : FnScope ["_law_one", "_law_other"] ["_law_one", "_law_other"] (defScope s__law_divisor) := ⟨rfl, rfl, rfl, by decide +kernel, rfl, by decide +kernel, by decide +kernel⟩
noncomputable abbrev s__law_is_prime : Stmt := top 28
theorem sc__law_is_prime : FnScope ["_law_whole", "_law_by"] ["_law_whole"] (defScope s__law_is_prime) := ⟨rfl, rfl, rfl, by decide +kernel, rfl, by decide +kernel, by decide +kernel⟩
noncomputable abbrev s__law_kind : Stmt := top 29
theorem sc__law_kind : FnScope ["_law_drawn", "_law_found"] ["_law_drawn"] (defScope s__law_kind) := ⟨rfl, rfl, rfl, by decide +kernel, rfl, by decide +kernel, by decide +kernel⟩
noncomputable abbrev s__law_number : Stmt := top 30
theorem sc__law_number : FnScope ["_law_kind_here", "_law_cell", "_law_j", "_law_drawn", "_law_top", "_law_bottom", "_law_by"] ["_law_kind_here", "_law_cell", "_law_j"] (defScope s__law_number) := ⟨rfl, rfl, rfl, by decide +kernel, rfl, by decide +kernel, by decide +kernel⟩
noncomputable abbrev s__law_table : Stmt := top 31
theorem sc__law_table : FnScope ["_law_kind_here", "_law_cell", "_law_rows", "_law_columns"] ["_law_kind_here", "_law_cell"] (defScope s__law_table) := ⟨rfl, rfl, rfl, by decide +kernel, rfl, by decide +kernel, by decide +kernel⟩
noncomputable abbrev s__law_text : Stmt := top 32
theorem sc__law_text : FnScope ["_law_kind_here", "_law_table_here", "_law_found", "_law_row", "_law_words", "_law_x", "_law_word"] ["_law_kind_here", "_law_table_here"] (defScope s__law_text) := ⟨rfl, rfl, rfl, by decide +kernel, rfl, by decide +kernel, by decide +kernel⟩
noncomputable abbrev s__law_odd : Stmt := top 33
theorem sc__law_odd : FnScope ["_law_cell", "_law_some"] ["_law_cell"] (defScope s__law_odd) := ⟨rfl, rfl, rfl, by decide +kernel, rfl, by decide +kernel, by decide +kernel⟩
noncomputable abbrev s__law_spoiled : Stmt := top 34
theorem sc__law_spoiled : FnScope ["_law_text_here", "_law_cell", "_law_signs", "_law_way", "_law_at", "_law_sign"] ["_law_text_here", "_law_cell"] (defScope s__law_spoiled) := ⟨rfl, rfl, rfl, by decide +kernel, rfl, by decide +kernel, by decide +kernel⟩
noncomputable abbrev s__law_figures : Stmt := top 35
theorem sc__law_figures : FnScope ["_law_word", "_law_sign"] ["_law_word"] (defScope s__law_figures) := ⟨rfl, rfl, rfl, by decide +kernel, rfl, by decide +kernel, by decide +kernel⟩
noncomputable abbrev s__law_told_number : Stmt := top 36
theorem sc__law_told_number : FnScope ["_law_kind_here", "_law_word", "_law_found", "_law_halves", "_law_sign", "_law_top", "_law_bottom"] ["_law_kind_here", "_law_word"] (defScope s__law_told_number) := ⟨rfl, rfl, rfl, by decide +kernel, rfl, by decide +kernel, by decide +kernel⟩
noncomputable abbrev s__law_told : Stmt := top 37
theorem sc__law_told : FnScope ["_law_kind_here", "_law_text_here", "_law_found", "_law_piece", "_law_row"] ["_law_kind_here", "_law_text_here"] (defScope s__law_told) := ⟨rfl, rfl, rfl, by decide +kernel, rfl, by decide +kernel, by decide +kernel⟩
noncomputable abbrev s__law_is : Stmt := top 38
theorem sc__law_is : FnScope ["_law_kind_here", "_law_found", "_law_due", "_law_row", "_law_x"] ["_law_kind_here", "_law_found", "_law_due"] (defScope s__law_is) := ⟨rfl, rfl, rfl, by decide +kernel, rfl, by decide +kernel, by decide +kernel⟩
noncomputable abbrev s__law_right : Stmt := top 39
theorem sc__law_right : FnScope ["_law_kind_here", "_law_text_here", "_law_due", "_law_error", "_law_found", "e"] ["_law_kind_here", "_law_text_here"] (defScope s__law_right) := ⟨rfl, rfl, rfl, by decide +kernel, rfl, by decide +kernel, by decide +kernel⟩
noncomputable abbrev s_law : Stmt := top 40
theorem sc_law : FnScope ["_law_script", "_law_cell", "_law_kind_here", "_law_table_here", "_law_text_here", "_law_found"] ["_law_script"] (defScope s_law) := ⟨rfl, rfl, rfl, by decide +kernel, rfl, by decide +kernel, by decide +kernel⟩
theorem kit_ib (K : PySem.W.Frag) : PySem.W.kitOne K (.type "int") (.type "bool") = some false := by
  unfold PySem.W.kitOne
  rw [if_neg (by decide)]
  show (if PySem.W.kitMeta "bool" = true then PySem.W.subIn K (.type "int") (.type "bool") else none) = some false
  rw [if_pos (by decide +kernel)]
  show (PySem.fastBuiltinMro "int").map (·.contains (Value.type "bool")) = some false
  decide +kernel
theorem kit_tt (K : PySem.W.Frag) : PySem.W.kitOne K (.type "tuple") (.type "tuple") = some true := by unfold PySem.W.kitOne; rw [if_pos (by decide)]
section
variable {P : Program} {w : World} {K : PySem.W.Frag} {mg : Str → Option Value} {base : Heap}
/-! _law_is_prime -/
noncomputable def sp_is_prime : Sp := fun vs H Q _ => ∃ n : Int, vs = [.int n] ∧ 0 ≤ n ∧ n < 99 ∧ Q (.bl (primeB n.toNat)) H
theorem mulok_small {a b : Int} (h0 : 0 ≤ a) (h1 : a ≤ 2305843009213693952) : IntMulOk a b := IntMulOk.of_left (intBits_le_64 (by (first | lia | omega)) (by (first | lia | omega)))
theorem kn_is_prime (D : Df K mg "_law_is_prime" ["_law_whole"] s__law_is_prime) : Kn P w K mg base "_law_is_prime" 1 ["_law_whole"] sp_is_prime := by
  refine D.kn sc__law_is_prime (fun vs H Q E h => ?_) (fun f cdv A outer s H vs Q E hr h => ?_)
  · obtain ⟨i, rfl, _⟩ := h; rfl
  obtain ⟨n, rfl, h0, h9, q⟩ := h
  refine ⟨_, (pss_cons (ps_set (i := 1) sc__law_is_prime.nd rfl (.inl rfl) pe_int) (pss_cons (ps_while PassesOwn.never (pt_cmpR op_le (pe_op op_mulB (pv 1) (pv 1)) (pv 0) (nomark _)) (pss_cons (ps_if (pt_cmpR op_eq (pe_op op_modN (pv 0) (pv 1)) pe_int (nomark _)) (pss_one (ps_ret pe_bl)) pss_nil) (pss_one (ps_set (i := 1) sc__law_is_prime.nd rfl (.inl rfl) (pe_op op_add (pv 1) pe_int))))) (pss_one (ps_ret (pe_cmpR op_gt (pv 0) pe_int (nomark _)))))), ?_⟩
  refine ⟨fun m σ H' => ∃ b, σ = [some (.int n), some (.int b)] ∧ H' = H ∧ PrInv n b ∧ m = (11 - b).toNat, ⟨_, 2, rfl, rfl, pr_start n, rfl⟩, ?_⟩
  rintro m σ H' ⟨b, rfl, rfl, inv, rfl⟩
  have b2 := inv.lo
  have b10 := inv.hi
  refine ⟨_, rfl, _, rfl, _, _, rfl, rfl, mulok_small (by (first | lia | omega)) (by (first | lia | omega)), _, rfl, _, _, rfl, rfl, _, rfl, ?_⟩
  refine ite2 (fun c => ?_) (fun c => ?_)
  · have c' : b * b ≤ n := of_decide_eq_true c
    refine ⟨_, fun _ _ h => h, ?_⟩
    refine ⟨_, rfl, _, rfl, _, _, rfl, rfl, (by (first | lia | omega) : b ≠ 0), rfl, _, rfl, ?_⟩
    have em : n.fmod b = n % b := Int.fmod_eq_emod_of_nonneg n (by (first | lia | omega))
    refine ite2 (fun d => ?_) (fun d => ?_)
    · have d' : V.int (n.fmod b) = V.int 0 := of_decide_eq_true d
      have d2 : n % b = 0 := by rw [← em]; exact V.int.inj d'
      have e := pr_stop inv h0 h9 c' d2
      rw [e] at q
      exact q
    · have d' : ¬ V.int (n.fmod b) = V.int 0 := of_decide_eq_false (Bool.eq_false_iff.mpr d)
      have d2 : n % b ≠ 0 := fun z => d' (by rw [em, z])
      have t := pr_turn inv h0 h9 c' d2
      exact ⟨_, rfl, _, _, rfl, rfl, _, by have := t.hi; (first | lia | omega), b + 1, rfl, rfl, t, rfl⟩
  · have c' : ¬ b * b ≤ n := of_decide_eq_false (Bool.eq_false_iff.mpr c)
    refine ⟨_, rfl, _, _, rfl, rfl, ?_⟩
    show Q (.bl (decide (1 < n))) H'
    rw [pr_end inv h0 h9 (by (first | lia | omega))]
    exact q
/-! _law_kind -/
noncomputable def sp_kind : Sp := fun vs H Q _ => ∃ c : Int, vs = [.int c] ∧ ∀ k, KindS k → Q (.int k) H
theorem kn_kind (hP : P.given.tree = none) (hS : base.NoSeer) (D : Df K mg "_law_kind" ["_law_drawn"] s__law_kind) (d__law_is_prime : Kn P w K mg base "_law_is_prime" 1 ["_law_whole"] sp_is_prime) : Kn P w K mg base "_law_kind" 41 ["_law_drawn"] sp_kind := by
  refine D.kn sc__law_kind (fun vs H Q E h => ?_) (fun f cdv A outer s H vs Q E hr h => ?_)
  · obtain ⟨i, rfl, _⟩ := h; rfl
  obtain ⟨c, rfl, q⟩ := h
  refine ⟨_, (pss_cons (ps_set (i := 1) sc__law_kind.nd rfl (.inl rfl) (pe_op op_modN (pe_op (op_fdivU hr (by decide) hP hS ⟨_, _, rfl, rfl, rfl, rfl, rfl⟩) (pv 0) pe_int) pe_int)) (pss_cons (ps_while PassesOwn.never (PW.pt (pw_and (pt_cmpR op_gt (pv 1) pe_int (nomark _)) (pw_and1 (pt_not (pt_val (pe_kA d__law_is_prime hr (pa_cons (pv 1) pa_nil))))))) (pss_one (ps_set (i := 1) sc__law_kind.nd rfl (.inl rfl) (pe_op op_sub (pv 1) pe_int)))) (pss_one (ps_ret (pe_op op_mulB (pv 1) (pe_op op_modN (pv 0) pe_int)))))), ?_⟩
  refine ⟨_, rfl, _, _, rfl, rfl, (by show (2 : Int) ≠ 0; decide), _, _, rfl, rfl, (by show (99 : Int) ≠ 0; decide), ?_⟩
  have f0 := Int.fmod_nonneg_of_pos (c.fdiv 2) (show (0 : Int) < 99 by decide)
  have f9 := Int.fmod_lt_of_pos (c.fdiv 2) (show (0 : Int) < 99 by decide)
  refine ⟨fun m σ H' => ∃ g, σ = [some (.int c), some (.int g)] ∧ H' = H ∧ 0 ≤ g ∧ g < 99 ∧ m = g.toNat, ⟨_, _, rfl, rfl, f0, f9, rfl⟩, ?_⟩
  rintro m σ H' ⟨g, rfl, rfl, g0, g9, rfl⟩
  have ends : ∀ j : Int, (g = 0 ∨ primeB g.toNat = true) → Q (.int (g * c.fmod 2)) H' := fun _ hg => by
    have m0 := Int.fmod_nonneg_of_pos c (show (0 : Int) < 2 by decide)
    have m1 := Int.fmod_lt_of_pos c (show (0 : Int) < 2 by decide)
    rcases hg with hg | hg
    · rw [hg, Int.zero_mul]; exact q 0 (.inl rfl)
    · rcases (show c.fmod 2 = 0 ∨ c.fmod 2 = 1 by (first | lia | omega)) with e | e
      · rw [e, Int.mul_zero]; exact q 0 (.inl rfl)
      · rw [e, Int.mul_one]
        refine q g (.inr ⟨?_, g9, hg⟩)
        rcases (show g = 0 ∨ g = 1 ∨ 1 < g by (first | lia | omega)) with e | e | e
        · rw [e] at hg; exact absurd hg (by decide)
        · rw [e] at hg; exact absurd hg (by decide)
        · exact e
  refine ⟨_, rfl, _, _, rfl, rfl, _, rfl, ?_⟩
  refine ite2 (fun cc => ?_) (fun cc => ?_)
  · have c' : 0 < g := of_decide_eq_true cc
    refine ⟨_, rfl, g, rfl, g0, g9, _, rfl, ?_⟩
    cases hp : primeB g.toNat with
    | false =>
      refine iteT ⟨_, fun _ _ h => h, ?_⟩
      exact ⟨_, rfl, _, _, rfl, rfl, _, by (first | lia | omega), g - 1, rfl, rfl, by (first | lia | omega), by (first | lia | omega), rfl⟩
    | true =>
      refine iteF ?_
      exact ⟨_, rfl, _, rfl, _, _, rfl, rfl, (by show (2 : Int) ≠ 0; decide), _, _, rfl, rfl, mulok_small g0 (by (first | lia | omega)), ends 0 (.inr hp)⟩
  · have c' : ¬ 0 < g := of_decide_eq_false (Bool.eq_false_iff.mpr cc)
    refine iteF ?_
    exact ⟨_, rfl, _, rfl, _, _, rfl, rfl, (by show (2 : Int) ≠ 0; decide), _, _, rfl, rfl, mulok_small g0 (by (first | lia | omega)), ends 0 (.inl (by (first | lia | omega)))⟩
/-! common_divisor -/
noncomputable def sp_cd : Sp := fun vs H Q _ => ∃ (a b : Int), vs = [.int a, .int b] ∧ Q (.int ((Int.gcd a b : Nat) : Int)) H
theorem abs_if (i : Int) : (if i < 0 then -i else i) = (i.natAbs : Int) := by split <;> (first | lia | omega)
theorem kn_cd (D : Df K mg "common_divisor" ["one", "other"] s_common_divisor) (m_abs : mg "abs" = none) : Kn P w K mg base "common_divisor" 1 ["one", "other"] sp_cd := by
  refine D.kn sc_common_divisor (fun vs H Q E h => ?_) (fun f cdv A outer s H vs Q E hr h => ?_)
  · obtain ⟨a, b, rfl, _⟩ := h; rfl
  obtain ⟨a, b, rfl, q⟩ := h
  refine ⟨_, (pss_cons (ps_set (i := 2) sc_common_divisor.nd rfl (.inl rfl) (pe_callB call_abs rfl m_abs bb_abs (pa_cons (pv 0) pa_nil))) (pss_cons (ps_set (i := 3) sc_common_divisor.nd rfl (.inl rfl) (pe_callB call_abs rfl m_abs bb_abs (pa_cons (pv 1) pa_nil))) (pss_cons (ps_while PassesOwn.never (pt_cmpR op_ne (pv 3) pe_int (nomark _)) (pss_cons (ps_set (i := 4) sc_common_divisor.nd rfl (.inl rfl) (pe_op op_modN (pv 2) (pv 3))) (pss_cons (ps_set (i := 2) sc_common_divisor.nd rfl (.inl rfl) (pv 3)) (pss_one (ps_set (i := 3) sc_common_divisor.nd rfl (.inl rfl) (pv 4)))))) (pss_one (ps_ret (pv 2)))))), ?_⟩
  refine ⟨_, rfl, a, rfl, _, rfl, b, rfl, ?_⟩
  rw [abs_if, abs_if]
  refine ⟨fun m σ H' => ∃ l r o, σ = [some (.int a), some (.int b), some (.int l), some (.int r), o] ∧ H' = H ∧ 0 ≤ l ∧ 0 ≤ r ∧ Int.gcd l r = Int.gcd a b ∧ m = r.toNat, ⟨_, _, _, none, rfl, rfl, Int.natCast_nonneg _, Int.natCast_nonneg _, by simp [Int.gcd_eq_natAbs_gcd_natAbs], rfl⟩, ?_⟩
  rintro m σ H' ⟨l, r, o, rfl, rfl, l0, r0, g, rfl⟩
  refine ⟨_, rfl, rfl, _, rfl, ?_⟩
  refine ite2 (fun c => ?_) (fun c => ?_)
  · have c' : r ≠ 0 := fun z => by rw [z] at c; exact absurd c (by decide)
    have m0 := Int.fmod_nonneg_of_pos l (show 0 < r by (first | lia | omega))
    have m1 := Int.fmod_lt_of_pos l (show 0 < r by (first | lia | omega))
    refine ⟨_, fun _ _ h => h, ?_⟩
    exact ⟨_, rfl, _, rfl, _, _, rfl, rfl, c', _, rfl, _, rfl, _, by (first | lia | omega), r, l.fmod r, _, rfl, rfl, r0, m0, (gcd_fmod l r).trans g, rfl⟩
  · have c' : r = 0 := by
      rcases Int.lt_or_le 0 r with h | h
      · exact absurd (by have h' : ¬ V.int r = V.int 0 := fun z => by have := V.int.inj z; (first | lia | omega)
                         rw [decide_eq_false h']; rfl) c
      · (first | lia | omega)
    subst c'
    refine ⟨_, rfl, ?_⟩
    have e : l = ((Int.gcd a b : Nat) : Int) := by rw [← g, Int.gcd_zero]; (first | lia | omega)
    show Q (.int l) H'
    rw [e]; exact q
/-! fraction, number -/
noncomputable def sp_fraction : Sp := fun vs H Q _ => ∃ (t b : Int), vs = [.int t, .int b] ∧ b ≠ 0 ∧ ∀ v H', Same H H' → RN H' (.q (Rat.divInt t b)) v → Q v H'
theorem kn_fraction (hP : P.given.tree = none) (hS : base.NoSeer) (D : Df K mg "fraction" ["top", "bottom"] s_fraction) (d_common_divisor : Kn P w K mg base "common_divisor" 1 ["one", "other"] sp_cd) : Kn P w K mg base "fraction" 41 ["top", "bottom"] sp_fraction := by
  refine D.kn sc_fraction (fun vs H Q E h => ?_) (fun f cdv A outer s H vs Q E hr h => ?_)
  · obtain ⟨a, b, rfl, _⟩ := h; rfl
  obtain ⟨t, b, rfl, hb, q⟩ := h
  refine ⟨_, (pss_cons (ps_set (i := 2) sc_fraction.nd rfl (.inl rfl) (pe_kA d_common_divisor hr (pa_cons (pv 0) (pa_cons (pv 1) pa_nil)))) (pss_cons (ps_if (pt_cmpR op_lt (pv 1) pe_int (nomark _)) (pss_one (ps_set (i := 2) sc_fraction.nd rfl (.inl rfl) (pe_un un_neg (pv 2)))) pss_nil) (pss_one (ps_ret (pe_tup (pa_cons (pe_op (op_fdivU hr (by decide) hP hS ⟨_, _, rfl, rfl, rfl, rfl, rfl⟩) (pv 0) (pv 2)) (pa_cons (pe_op (op_fdivU hr (by decide) hP hS ⟨_, _, rfl, rfl, rfl, rfl, rfl⟩) (pv 1) (pv 2)) pa_nil))))))), ?_⟩
  obtain ⟨e1, e2⟩ := frac_num (t := t) hb
  have cd : sg t b ≠ 0 := sg_ne hb
  have fin : ∀ p, H p = none → Q (.ref p) (upd H p (.tup [.int (t.fdiv (sg t b)), .int (b.fdiv (sg t b))])) := fun p hp => by
    rw [e1, e2]
    exact q _ _ (same_new hp _) (RN.of_q upd_same)
  refine ⟨_, rfl, _, rfl, t, b, rfl, ?_⟩
  refine ⟨_, rfl, _, _, rfl, rfl, _, rfl, ?_⟩
  refine ite2 (fun c => ?_) (fun c => ?_)
  · have c' : b < 0 := of_decide_eq_true c
    have e : sg t b = -((Int.gcd t b : Nat) : Int) := by unfold sg; rw [if_pos c']
    rw [e] at cd fin
    exact ⟨_, rfl, _, rfl, _, rfl, _, rfl, _, _, rfl, rfl, cd, _, rfl, _, rfl, _, _, rfl, rfl, cd, (by show 2 ≤ sizeLine; decide), fin⟩
  · have c' : ¬ b < 0 := of_decide_eq_false (Bool.eq_false_iff.mpr c)
    have e : sg t b = ((Int.gcd t b : Nat) : Int) := by unfold sg; rw [if_neg c']
    rw [e] at cd fin
    exact ⟨_, rfl, _, rfl, _, _, rfl, rfl, cd, _, rfl, _, rfl, _, _, rfl, rfl, cd, (by show 2 ≤ sizeLine; decide), fin⟩
/-! number -/
noncomputable def sp_number : Sp := fun vs H Q _ => ∃ (k w : Int), vs = [.int k, .int w] ∧ ∀ v H', Same H H' → RN H' (nnum k w) v → Q v H'
theorem kn_number (D : Df K mg "number" ["kind", "whole"] s_number) : Kn P w K mg base "number" 1 ["kind", "whole"] sp_number := by
  refine D.kn sc_number (fun vs H Q E h => ?_) (fun f cdv A outer s H vs Q E hr h => ?_)
  · obtain ⟨k, w, rfl, _⟩ := h; rfl
  obtain ⟨k, w, rfl, q⟩ := h
  refine ⟨_, (pss_cons (ps_if (pt_cmpR op_eq (pv 0) pe_int (nomark _)) (pss_one (ps_ret (pe_tup (pa_cons (pv 1) (pa_cons pe_int pa_nil))))) pss_nil) (pss_one (ps_ret (pe_op op_modN (pv 1) (pv 0))))), ?_⟩
  refine ⟨_, rfl, rfl, _, rfl, ?_⟩
  refine ite2 (fun c => ?_) (fun c => ?_)
  · have e : k = 0 := V.int.inj (of_decide_eq_true c)
    subst e
    refine ⟨_, rfl, (by show 2 ≤ sizeLine; decide), fun p hp => ?_⟩
    refine q _ _ (same_new hp _) ?_
    show RN _ (.q (w : Rat)) _
    exact RN.of_q upd_same
  · have c' : ¬ V.int k = V.int 0 := of_decide_eq_false (Bool.eq_false_iff.mpr c)
    have e : k ≠ 0 := fun z => c' (by rw [z])
    refine ⟨_, rfl, _, rfl, _, _, rfl, rfl, e, ?_⟩
    refine q _ _ (Same.refl H) ?_
    unfold nnum
    rw [if_neg e]
    exact RN.of_z
--SPLIT
/-! show_whole -/
theorem bb_str : bootBuiltins "str" = some (.type "str") := by decide +kernel
theorem cpow10 {j : Int} (h0 : 0 ≤ j) (h1 : j ≤ 100) : CPow 10 j := ⟨h0, by (first | lia | omega), by decide⟩
noncomputable def sp_shw : Sp := fun vs H Q _ => ∃ i : Int, vs = [.int i] ∧ i.natAbs < 10 ^ 21 ∧ ∀ x, cl x = shI i → Q (.str x) H
theorem shI_abs (i : Int) : shI ((i.natAbs : Nat) : Int) = dec i.natAbs := by
  unfold shI
  rw [if_neg (by (first | lia | omega))]; rfl
theorem kn_shw (hP : P.given.tree = none) (hS : base.NoSeer) (D : Df K mg "show_whole" ["whole"] s_show_whole) (m_abs : mg "abs" = none) (m_str : mg "str" = none) : Kn P w K mg base "show_whole" 41 ["whole"] sp_shw := by
  refine D.kn sc_show_whole (fun vs H Q E h => ?_) (fun f cdv A outer s H vs Q E hr h => ?_)
  · obtain ⟨i, rfl, _⟩ := h; rfl
  obtain ⟨i, rfl, hi, q⟩ := h
  have szl : sizeLine = 16777216 := by decide
  refine ⟨_, (pss_cons (ps_set (i := 1) sc_show_whole.nd rfl (.inl rfl) (pe_op op_pow pe_int pe_int)) (pss_cons (ps_set (i := 2) sc_show_whole.nd rfl (.inl rfl) (pe_callB call_abs rfl m_abs bb_abs (pa_cons (pv 0) pa_nil))) (pss_cons (ps_set (i := 3) sc_show_whole.nd rfl (.inl rfl) pe_str) (pss_cons (ps_while PassesOwn.never (pt_cmpR op_ge (pv 2) (pv 1) (nomark _)) (pss_cons (ps_set (i := 3) sc_show_whole.nd rfl (.inl rfl) (pe_op op_add_str (bm0 (fun _ h => pe_bm PySem.F.plainAttrs_str PySem.F.slot_str_zfill PySem.F.type_str_zfill mt_zfill h (pa_cons pe_int pa_nil)) (pe_callTy call_str_int rfl m_str bb_str (pa_cons (pe_op op_modN (pv 2) (pv 1)) pa_nil))) (pv 3))) (pss_one (ps_set (i := 2) sc_show_whole.nd rfl (.inl rfl) (pe_op (op_fdivU hr (by decide) hP hS ⟨_, _, rfl, rfl, rfl, rfl, rfl⟩) (pv 2) (pv 1)))))) (pss_cons (ps_set (i := 4) sc_show_whole.nd rfl (.inl rfl) (pe_ifExp (pt_cmpR op_lt (pv 0) pe_int (nomark _)) pe_str pe_str)) (pss_one (ps_ret (pe_op op_add_str (pe_op op_add_str (pv 4) (pe_callTy call_str_int rfl m_str bb_str (pa_cons (pv 2) pa_nil))) (pv 3))))))))), ?_⟩
  refine ⟨_, _, rfl, rfl, cpow10 (by decide) (by decide), _, rfl, i, rfl, ?_⟩
  rw [abs_if]
  refine ⟨fun m σ H' => σ = [some (.int i), some (.int (10 ^ (64 : Int).toNat)), some (.int (i.natAbs : Int)), some (.str (Str.ofString "")), none] ∧ H' = H ∧ m = 0, ⟨_, rfl, rfl, rfl⟩, ?_⟩
  rintro m σ H' ⟨rfl, rfl, rfl⟩
  have lt : ¬ ((10 : Int) ^ (64 : Int).toNat ≤ (i.natAbs : Int)) := by
    have h1 := p21_64 hi
    have e : (10 : Int) ^ (64 : Int).toNat = ((10 ^ 64 : Nat) : Int) := by decide +kernel
    rw [e]; (first | lia | omega)
  refine ⟨_, rfl, _, rfl, _, _, rfl, rfl, _, rfl, ?_⟩
  rw [decide_eq_false lt]
  refine iteF ?_
  have l22 := len_ofStr ((i.natAbs : Nat) : Int) hi
  have e0 : (Str.ofString "").length = 0 := by decide +kernel
  have e1 : (Str.ofString "-").length = 1 := by decide +kernel
  have c0 : cl (Str.ofString "") = [] := by decide +kernel
  have c1 : cl (Str.ofString "-") = [45] := by decide +kernel
  refine ⟨_, rfl, _, _, rfl, rfl, _, rfl, ?_⟩
  refine ite2 (fun c => ?_) (fun c => ?_)
  · have c' : i < 0 := of_decide_eq_true c
    refine ⟨_, rfl, _, rfl, _, rfl, log_lt (p21_64 hi), _, _, rfl, rfl, (by rw [e1]; (first | lia | omega)), _, rfl, _, _, rfl, rfl, ?_, q _ ?_⟩
    · rw [← cl_len, cl_app, List.length_append, cl_len, cl_len, e0, e1]; (first | lia | omega)
    · rw [cl_app, cl_app, c0, c1, show cl (Str.ofString (toString ((i.natAbs : Nat) : Int))) = shI ((i.natAbs : Nat) : Int) from sh_str _, shI_abs, List.append_nil]
      unfold shI
      rw [if_pos c']; rfl
  · have c' : ¬ i < 0 := of_decide_eq_false (Bool.eq_false_iff.mpr c)
    refine ⟨_, rfl, _, rfl, _, rfl, log_lt (p21_64 hi), _, _, rfl, rfl, (by rw [e0]; (first | lia | omega)), _, rfl, _, _, rfl, rfl, ?_, q _ ?_⟩
    · rw [← cl_len, cl_app, List.length_append, cl_len, cl_len, e0]; (first | lia | omega)
    · rw [cl_app, cl_app, c0, show cl (Str.ofString (toString ((i.natAbs : Nat) : Int))) = shI ((i.natAbs : Nat) : Int) from sh_str _, shI_abs, List.append_nil]
      unfold shI
      rw [if_neg c']; rfl
/-! show_number -/
noncomputable def sp_shn : Sp := fun vs H Q _ => ∃ (k : Int) (x : Nb) (v : V), vs = [.int k, v] ∧ x.ok k ∧ RN H x v ∧ SmN x ∧ ∀ y, cl y = shN x → Q (.str y) H
theorem kn_shn {t : Nat} (D : Df K mg "show_number" ["kind", "told"] s_show_number) (d_show_whole : Kn P w K mg base "show_whole" 41 ["whole"] sp_shw) (m_STROKE : mg "STROKE" = some (.str "/" t)) : Kn P w K mg base "show_number" 42 ["kind", "told"] sp_shn := by
  refine D.kn sc_show_number (fun vs H Q E h => ?_) (fun f cdv A outer s H vs Q E hr h => ?_)
  · obtain ⟨k, x, v, rfl, _⟩ := h; rfl
  obtain ⟨k, x, v, rfl, ok, hx, sm, q⟩ := h
  have szl : sizeLine = 16777216 := by decide
  refine ⟨_, (pss_cons (ps_if (pt_cmpR op_ne (pv 0) pe_int (nomark _)) (pss_one (ps_ret (pe_kA d_show_whole hr (pa_cons (pv 1) pa_nil)))) pss_nil) (pss_cons (ps_if (pt_cmpR op_eq (pe_iA ix_tup0 (pv 1) pe_int) pe_int (nomark _)) (pss_one (ps_ret (pe_kA d_show_whole hr (pa_cons (pe_iA ix_tup0 (pv 1) pe_int) pa_nil)))) pss_nil) (pss_one (ps_ret (pe_op op_add_str (pe_op op_add_str (pe_kA d_show_whole hr (pa_cons (pe_iA ix_tup0 (pv 1) pe_int) pa_nil)) (pe_glob (v := .str "/") rfl m_STROKE ⟨_, rfl⟩)) (pe_kA d_show_whole hr (pa_cons (pe_iA ix_tup0 (pv 1) pe_int) pa_nil))))))), ?_⟩
  refine ⟨_, rfl, rfl, _, rfl, ?_⟩
  cases x with
  | z i =>
    have hv := hx.z
    subst hv
    have k0 : k ≠ 0 := ok.1
    refine ite2 (fun c => ?_) (fun c => ?_)
    · exact ⟨_, rfl, i, rfl, sm, q⟩
    · exact absurd (by rw [decide_eq_false (fun z : V.int k = V.int 0 => k0 (V.int.inj z))]; rfl) c
  | q r =>
    have k0 : k = 0 := ok
    subst k0
    obtain ⟨p, hv, hp⟩ := hx.q
    subst hv
    refine ite2 (fun c => ?_) (fun c => ?_)
    · exact absurd c (by simp)
    dsimp only
    refine ⟨_, rfl, p, _, _, .int (r.den : Int), rfl, rfl, SqT.of hp, rfl, rfl, _, rfl, ?_⟩
    refine ite2 (fun c => ?_) (fun c => ?_)
    · have d1 : r.den = 1 := by have := V.int.inj (of_decide_eq_true c); (first | lia | omega)
      refine ⟨_, rfl, p, _, _, .int r.num, rfl, rfl, SqT.of hp, rfl, r.num, rfl, sm.1, fun y hy => q y ?_⟩
      rw [hy]
      show _ = shI r.num ++ if r.den = 1 then [] else 47 :: dec r.den
      rw [if_pos d1, List.append_nil]
    · have d1 : ¬ r.den = 1 := fun z => c (by rw [z]; rfl)
      dsimp only
      refine ⟨_, rfl, p, _, _, .int r.num, rfl, rfl, SqT.of hp, rfl, r.num, rfl, sm.1, fun y hy => ?_⟩
      have ly : y.length ≤ 22 := by rw [← cl_len, hy]; exact shI_len (by decide) sm.1
      have l1 : (Str.ofString "/").length = 1 := by decide +kernel
      have c1 : cl (Str.ofString "/") = [47] := by decide +kernel
      refine ⟨_, _, rfl, rfl, (by rw [l1]; (first | lia | omega)), ?_⟩
      refine ⟨_, rfl, p, _, _, .int (r.den : Int), rfl, rfl, SqT.of hp, rfl, (r.den : Int), rfl, sm.2, fun z hz => ?_⟩
      have lz : z.length ≤ 22 := by rw [← cl_len, hz]; exact shI_len (by decide) (show (r.den : Int).natAbs < 10 ^ 21 from sm.2)
      refine ⟨_, _, rfl, rfl, (by rw [← cl_len, cl_app, List.length_append, cl_len, cl_len, l1]; (first | lia | omega)), q _ ?_⟩
      rw [cl_app, cl_app, hy, hz, c1]
      show _ = shI r.num ++ if r.den = 1 then [] else 47 :: dec r.den
      rw [if_neg d1, show shI (r.den : Int) = dec r.den from shI_abs (r.den : Int), List.append_assoc]; rfl
/-! show_table -/
noncomputable def sp_sht : Sp := fun vs H Q _ => ∃ (k : Int) (M : List (List Nb)) (t : Addr) (ras : List Addr), vs = [.int k, .ref t] ∧ TabAt H M t ras ∧ (∀ r ∈ M, r.length ≤ 13 ∧ ∀ x ∈ r, x.ok k ∧ SmN x) ∧ M.length ≤ 13 ∧ ∀ y H', Same H H' → cl y = shT M → Q (.str y) H'
theorem kn_sht {t1 t2 : Nat} (D : Df K mg "show_table" ["kind", "table"] s_show_table) (d_show_number : Kn P w K mg base "show_number" 42 ["kind", "told"] sp_shn) (m_BETWEEN_ROWS : mg "BETWEEN_ROWS" = some (.str "; " t1)) (m_BETWEEN_NUMBERS : mg "BETWEEN_NUMBERS" = some (.str " " t2)) : Kn P w K mg base "show_table" 43 ["kind", "table"] sp_sht := by
  refine D.kn sc_show_table (fun vs H Q E h => ?_) (fun f cdv A outer s H vs Q E hr h => ?_)
  · obtain ⟨k, M, t, ras, rfl, _⟩ := h; rfl
  obtain ⟨k, M, t, ras, rfl, hT, ok, lM, q⟩ := h
  have szl : sizeLine = 16777216 := by decide
  have lr := pd_len hT.2
  have c1 : cl (Str.ofString " ") = [32] := by decide +kernel
  have c2 : cl (Str.ofString "; ") = [59, 32] := by decide +kernel
  have z1 : (Str.ofString " ").length ≤ 500 := by decide +kernel
  have z2 : (Str.ofString "; ").length ≤ 500 := by decide +kernel
  refine ⟨_, (pss_cons (ps_cN 2 sc_show_table.nd ["kind"] [0] (pi_list0 (pv 1)) fun _ _ _ _ _ _ => ⟨pts_nil, (bm0 (fun _ h => pe_bm PySem.F.plainAttrs_str PySem.F.slot_str_join PySem.F.type_str_join mt_join0 h (pa_cons (pe_cN ["kind"] [1] (pi_list0 (pv 0)) fun _ _ _ _ _ _ => ⟨pts_nil, (pe_kA d_show_number hr (pa_cons (pv 1) (pa_cons (pv 0) pa_nil)))⟩) pa_nil)) (pe_glob (v := .str " ") rfl m_BETWEEN_NUMBERS ⟨_, rfl⟩))⟩) (pss_one (ps_ret (bm0 (fun _ h => pe_bm PySem.F.plainAttrs_str PySem.F.slot_str_join PySem.F.type_str_join mt_join0 h (pa_cons (pv 2) pa_nil)) (pe_glob (v := .str "; ") rfl m_BETWEEN_ROWS ⟨_, rfl⟩))))), ?_⟩
  refine ⟨_, rfl, t, rfl, ⟨_, SqL.of hT.1⟩, ?_⟩
  refine comp_list (xs := ras.map V.ref) (fun i ys H' => ∃ zs : List Str, ys = zs.map V.str ∧ Same H H' ∧ zs.map cl = (M.map shRow).take i) ⟨[], rfl, Same.refl _, rfl⟩ ?_ ?_ ?_
  · rintro i ys H' hi ⟨zs, rfl, g, e⟩
    refine ⟨SqL.of (g _ _ hT.1), ?_⟩
    have := congrArg List.length e
    rw [List.length_map, List.length_take, List.length_map] at this
    rw [List.length_map]; (first | lia | omega)
  · rintro i v ys H' hv hi ⟨zs, rfl, g, e⟩
    obtain ⟨row, a, hrow, ha, rfl, hR⟩ := (hT.mono g).row hv
    obtain ⟨us, hu, pu, lu⟩ := hR.len
    obtain ⟨l13, okr⟩ := ok row (List.mem_of_getElem? hrow)
    first | refine gyes ?_ | refine tyes ?_
    refine ⟨rfl, _, rfl, a, rfl, ⟨_, SqL.of hu⟩, ?_⟩
    refine comp_list (xs := us) (fun j ys2 H2 => ∃ ws : List Str, ys2 = ws.map V.str ∧ Same H' H2 ∧ ws.map cl = (row.map shN).take j) ⟨[], rfl, Same.refl _, rfl⟩ ?_ ?_ ?_
    · rintro j ys2 H2 hj ⟨ws, rfl, g2, e2⟩
      refine ⟨SqL.of (g2 _ _ hu), ?_⟩
      have := congrArg List.length e2
      rw [List.length_map, List.length_take, List.length_map] at this
      rw [List.length_map]; (first | lia | omega)
    · rintro j x ys2 H2 hx hj ⟨ws, rfl, g2, e2⟩
      obtain ⟨x', hx', rx⟩ := pd_right pu hx
      have o := okr x' (List.mem_of_getElem? hx')
      first | refine gyes ?_ | refine tyes ?_
      refine ⟨_, rfl, _, rfl, k, x', x, rfl, o.1, rx.mono g2, o.2, fun y hy => nxt hj ⟨ws ++ [y], by rw [List.map_append]; rfl, g2, ?_⟩⟩
      have ex : (row.map shN)[j]? = some (shN x') := by rw [List.getElem?_map, hx']; rfl
      rw [List.map_append, e2, take_snoc ex, ← hy]; rfl
    · rintro ys2 H2 ⟨ws, rfl, g2, e2⟩ pl hpl
      rw [List.take_of_length_le (by rw [List.length_map]; (first | lia | omega))] at e2
      have lw : ws.length = row.length := by have := congrArg List.length e2; rwa [List.length_map, List.length_map] at this
      refine ⟨_, pl, ws, rfl, rfl, upd_same, join_ok (by (first | lia | omega)) (fun x hx => ?_) z1, nxt hi ⟨zs ++ [Txt.join (Str.ofString " ") ws], by rw [List.map_append]; rfl, (g.trans g2).trans (same_new hpl _), ?_⟩⟩
      · have m : cl x ∈ row.map shN := by rw [← e2]; exact List.mem_map.mpr ⟨x, hx, rfl⟩
        obtain ⟨y, hy, ey⟩ := List.mem_map.mp m
        rw [← cl_len, ← ey]
        exact Nat.le_trans (shN_len (okr y hy).2) (by decide)
      · have ex : (M.map shRow)[i]? = some (shRow row) := by rw [List.getElem?_map, hrow]; rfl
        rw [List.map_append, e, take_snoc ex]
        show _ ++ [cl (Txt.join (Str.ofString " ") ws)] = _
        rw [cl_join, c1, e2]; rfl
  · rintro ys H' ⟨zs, rfl, g, e⟩ p hp
    rw [List.take_of_length_le (by rw [List.length_map, List.length_map]; (first | lia | omega))] at e
    have lz : zs.length = M.length := by have := congrArg List.length e; rwa [List.length_map, List.length_map] at this
    refine ⟨rfl, _, rfl, _, p, zs, rfl, rfl, upd_same, join_ok (by (first | lia | omega)) (fun x hx => ?_) z2, q _ _ (g.trans (same_new hp _)) ?_⟩
    · have m : cl x ∈ M.map shRow := by rw [← e]; exact List.mem_map.mpr ⟨x, hx, rfl⟩
      obtain ⟨y, hy, ey⟩ := List.mem_map.mp m
      rw [← cl_len, ← ey]
      exact Nat.le_trans (shRow_len (fun x hx => ((ok y hy).2 x hx).2) (ok y hy).1) (by decide)
    · rw [cl_join, c2, e]; rfl
--SPLIT
/-! read_whole -/
theorem bb_any : bootBuiltins "any" = some (.builtin "any") := by decide +kernel
noncomputable def sp_rdw (C : Addr) : Sp := fun vs H Q E => ∃ x : Str, vs = [.str x] ∧ x.length ≤ 100000 ∧ ∀ H', Same H H' → (∀ v, rdW (cl x) = some v → Q (.int v) H') ∧ (rdW (cl x) = none → E (.ref C) none H')
theorem allD_any (l : List Nat) : (l.map fun c => !decide (48 ≤ c ∧ c ≤ 57)).any id = !allD l := by
  unfold allD
  induction l with
  | nil => rfl
  | cons a l ih => rw [List.map_cons, List.any_cons, ih, List.all_cons, Bool.not_and]; rfl
theorem kn_rdw {C : Addr} {t1 t2 : Nat} (c_NoText : Ec K mg "NoText" C) (D : Df K mg "read_whole" ["word"] s_read_whole) (m_FIGURES : mg "FIGURES" = some (.str "0123456789" t1)) (m_MOST_FIGURES : mg "MOST_FIGURES" = some (.int 20 t2)) (m_len : mg "len" = none) (m_any : mg "any" = none) (m_int : mg "int" = none) : Kx P w K mg base "read_whole" 2 ["word"] (sp_rdw C) := by
  refine D.kx sc_read_whole (fun vs H Q E h => ?_) (fun f cdv A outer s H vs Q E hr h => ?_)
  · obtain ⟨x, rfl, _⟩ := h; rfl
  obtain ⟨x, rfl, lx, q⟩ := h
  have szl : sizeLine = 16777216 := by decide
  refine ⟨_, (pss_cons (PS.nox (ps_set (i := 1) sc_read_whole.nd rfl (.inl rfl) (pe_ifExp (pt_val (bm0 (fun _ h => pe_bm PySem.F.plainAttrs_str PySem.F.slot_str_startswith PySem.F.type_str_startswith mt_startswith h (pa_cons pe_str pa_nil)) (pv 0))) (pe_slice sl_str (pv 0) (po_some pe_int) po_none) (pv 0)))) (pss_cons (ps_if (PT.nox (PW.pt (pw_or (pt_not (pt_chain op_le op_le pe_int (pe_callB call_len_str rfl m_len bb_len (pa_cons (pv 1) pa_nil)) (pe_glob (v := .int 20) rfl m_MOST_FIGURES ⟨_, rfl⟩))) (pw_or1 (pt_val (pe_callB (call_any0 rfl) rfl m_any bb_any (pa_cons (pe_cN [] [] (pi_str (pv 1)) fun _ _ _ _ _ _ => ⟨pts_nil, (pe_cmpR op_notIn_str (pv 0) (pe_glob (v := .str "0123456789") rfl m_FIGURES ⟨_, rfl⟩) (by with_unfolding_all rfl))⟩) pa_nil))))))) (pss_one (ps_raise c_NoText rfl rfl raises_of (pa_cons pe_str pa_nil))) pss_nil) (pss_one (PS.nox (ps_ret (pe_callTy call_int_text rfl m_int bb_int (pa_cons (pv 0) pa_nil))))))), ?_⟩
  refine ⟨_, rfl, rfl, _, _, rfl, rfl, _, rfl, ?_⟩
  have es : Str.ofString "-" = ⟨#[45]⟩ := by decide +kernel
  rw [es, starts_one]
  refine ite2 (fun c => ?_) (fun c => ?_)
  · refine ⟨_, rfl, _, rfl, _, rfl, (by (first | lia | omega)), ?_⟩
    have hd := of_decide_eq_true c
    have hs := slice_from x 1
    rw [show ((1 : Nat) : Int) = 1 from rfl] at hs
    have rd : rdW (cl x) = if (1 ≤ (cl (Txt.slice x (some 1) none)).length ∧ (cl (Txt.slice x (some 1) none)).length ≤ 20) ∧ allD (cl (Txt.slice x (some 1) none)) = true then some (-(digitsVal (cl x).tail : Int)) else none := by
      unfold rdW
      rw [if_pos hd, show cl (Txt.slice x (some 1) none) = (cl x).tail by rw [show cl (Txt.slice x (some 1) none) = (cl x).drop 1 from hs, List.drop_one]]
    have ly : (Txt.slice x (some 1) none).length ≤ 100000 := by
      rw [← cl_len, show cl (Txt.slice x (some 1) none) = (cl x).drop 1 from hs, List.length_drop, cl_len]; (first | lia | omega)
    generalize Txt.slice x (some 1) none = y at *
    refine ⟨_, rfl, _, rfl, (by (first | lia | omega)), _, _, rfl, rfl, _, rfl, ?_⟩
    have no : ∀ H', Same H H' → ¬ ((1 ≤ (cl y).length ∧ (cl y).length ≤ 20) ∧ allD (cl y) = true) → E (.ref C) none H' := fun H' g n => (q H' g).2 (by rw [rd, if_neg n])
    have cy := cl_len y
    refine ite2 (fun d1 => ?_) (fun d1 => ?_)
    · have e1 : (1 : Int) ≤ (y.length : Int) := of_decide_eq_true d1
      refine ⟨_, _, rfl, rfl, _, rfl, ?_⟩
      by_cases e2 : ((y.length : Int) ≤ 20)
      · rw [decide_eq_true e2]
        refine iteF ?_
        refine ⟨_, rfl, _, rfl, ?_⟩
        refine comp_str (fun i ys H' => ys = (((cl y).map fun c => !decide (48 ≤ c ∧ c ≤ 57)).take i).map V.bl ∧ H' = H) ⟨rfl, rfl⟩ ?_ ?_ ?_
        · rintro i ys H' hi ⟨rfl, rfl⟩
          rw [List.length_map, List.length_take, List.length_map]; (first | lia | omega)
        · rintro i c ys H' hc hi ⟨rfl, rfl⟩
          first | refine gyes ?_ | refine tyes ?_
          refine ⟨_, rfl, _, _, rfl, rfl, nxt hi ⟨?_, rfl⟩⟩
          have hc' : (cl y)[i]? = some c := by rw [← hc]; exact Array.getElem?_toList
          have ex : ((cl y).map fun c => !decide (48 ≤ c ∧ c ≤ 57))[i]? = some (!decide (48 ≤ c ∧ c ≤ 57)) := by rw [List.getElem?_map, hc']; rfl
          rw [take_snoc ex, List.map_append, in_figures]; rfl
        · rintro ys H' ⟨rfl, rfl⟩ p hp
          have g := same_new hp (.lst ((((cl y).map fun c => !decide (48 ≤ c ∧ c ≤ 57)).take y.cps.size).map V.bl))
          refine ⟨p, _, rfl, upd_same, _, rfl, ?_⟩
          rw [List.take_of_length_le (by rw [List.length_map]; show (cl y).length ≤ _; simp), allD_any]
          cases ad : allD (cl y) with
          | false =>
            refine iteT ⟨(by show 1 ≤ sizeLine; decide), no _ (by rw [List.take_of_length_le (by rw [List.length_map]; show (cl y).length ≤ _; simp)] at g; exact g) fun z => ?_⟩
            rw [ad] at z; exact absurd z.2 (by decide)
          | true =>
            refine iteF ?_
            rw [ad, if_pos ⟨⟨by (first | lia | omega), by (first | lia | omega)⟩, rfl⟩] at rd
            obtain ⟨iw, lw⟩ := int_word rd
            refine ⟨_, rfl, _, _, rfl, iw, (by (first | lia | omega)), (q _ (by rw [List.take_of_length_le (by rw [List.length_map]; show (cl y).length ≤ _; simp)] at g; exact g)).1 _ rd⟩
      · rw [decide_eq_false e2]
        refine iteT ⟨(by show 1 ≤ sizeLine; decide), no _ (Same.refl _) fun z => ?_⟩
        have := z.1.2; (first | lia | omega)
    · have e1 : ¬ (1 : Int) ≤ (y.length : Int) := of_decide_eq_false (Bool.eq_false_iff.mpr d1)
      refine ⟨_, rfl, iteT ⟨(by show 1 ≤ sizeLine; decide), no _ (Same.refl _) fun z => ?_⟩⟩
      have := z.1.1; (first | lia | omega)
  · refine ⟨_, rfl, ?_⟩
    have hd := of_decide_eq_false (Bool.eq_false_iff.mpr c)
    have rd : rdW (cl x) = if (1 ≤ (cl x).length ∧ (cl x).length ≤ 20) ∧ allD (cl x) = true then some (digitsVal (cl x) : Int) else none := by
      conv => lhs; unfold rdW
      rw [if_neg hd]
    refine ⟨_, rfl, _, rfl, (by (first | lia | omega)), _, _, rfl, rfl, _, rfl, ?_⟩
    have no : ∀ H', Same H H' → ¬ ((1 ≤ (cl x).length ∧ (cl x).length ≤ 20) ∧ allD (cl x) = true) → E (.ref C) none H' := fun H' g n => (q H' g).2 (by rw [rd, if_neg n])
    have cy := cl_len x
    refine ite2 (fun d1 => ?_) (fun d1 => ?_)
    · have e1 : (1 : Int) ≤ (x.length : Int) := of_decide_eq_true d1
      refine ⟨_, _, rfl, rfl, _, rfl, ?_⟩
      by_cases e2 : ((x.length : Int) ≤ 20)
      · rw [decide_eq_true e2]
        refine iteF ?_
        refine ⟨_, rfl, _, rfl, ?_⟩
        refine comp_str (fun i ys H' => ys = (((cl x).map fun c => !decide (48 ≤ c ∧ c ≤ 57)).take i).map V.bl ∧ H' = H) ⟨rfl, rfl⟩ ?_ ?_ ?_
        · rintro i ys H' hi ⟨rfl, rfl⟩
          rw [List.length_map, List.length_take, List.length_map]; (first | lia | omega)
        · rintro i c ys H' hc hi ⟨rfl, rfl⟩
          first | refine gyes ?_ | refine tyes ?_
          refine ⟨_, rfl, _, _, rfl, rfl, nxt hi ⟨?_, rfl⟩⟩
          have hc' : (cl x)[i]? = some c := by rw [← hc]; exact Array.getElem?_toList
          have ex : ((cl x).map fun c => !decide (48 ≤ c ∧ c ≤ 57))[i]? = some (!decide (48 ≤ c ∧ c ≤ 57)) := by rw [List.getElem?_map, hc']; rfl
          rw [take_snoc ex, List.map_append, in_figures]; rfl
        · rintro ys H' ⟨rfl, rfl⟩ p hp
          have g := same_new hp (.lst ((((cl x).map fun c => !decide (48 ≤ c ∧ c ≤ 57)).take x.cps.size).map V.bl))
          refine ⟨p, _, rfl, upd_same, _, rfl, ?_⟩
          rw [List.take_of_length_le (by rw [List.length_map]; show (cl x).length ≤ _; simp), allD_any]
          cases ad : allD (cl x) with
          | false =>
            refine iteT ⟨(by show 1 ≤ sizeLine; decide), no _ (by rw [List.take_of_length_le (by rw [List.length_map]; show (cl x).length ≤ _; simp)] at g; exact g) fun z => ?_⟩
            rw [ad] at z; exact absurd z.2 (by decide)
          | true =>
            refine iteF ?_
            rw [ad, if_pos ⟨⟨by (first | lia | omega), by (first | lia | omega)⟩, rfl⟩] at rd
            obtain ⟨iw, lw⟩ := int_word rd
            refine ⟨_, rfl, _, _, rfl, iw, (by (first | lia | omega)), (q _ (by rw [List.take_of_length_le (by rw [List.length_map]; show (cl x).length ≤ _; simp)] at g; exact g)).1 _ rd⟩
      · rw [decide_eq_false e2]
        refine iteT ⟨(by show 1 ≤ sizeLine; decide), no _ (Same.refl _) fun z => ?_⟩
        have := z.1.2; (first | lia | omega)
    · have e1 : ¬ (1 : Int) ≤ (x.length : Int) := of_decide_eq_false (Bool.eq_false_iff.mpr d1)
      refine ⟨_, rfl, iteT ⟨(by show 1 ≤ sizeLine; decide), no _ (Same.refl _) fun z => ?_⟩⟩
      have := z.1.1; (first | lia | omega)
--SPLIT
/-! read_fraction -/
noncomputable def sp_rdf (C : Addr) : Sp := fun vs H Q E => ∃ x : Str, vs = [.str x] ∧ x.length ≤ 100000 ∧ ∀ H', Same H H' → (∀ r v, rdF (cl x) = some r → RN H' (.q r) v → Q v H') ∧ (rdF (cl x) = none → E (.ref C) none H')
theorem kn_rdf {C : Addr} {t1 : Nat} (c_NoText : Ec K mg "NoText" C) (D : Df K mg "read_fraction" ["word"] s_read_fraction) (d_read_whole : Kx P w K mg base "read_whole" 2 ["word"] (sp_rdw C)) (d_fraction : Kn P w K mg base "fraction" 41 ["top", "bottom"] sp_fraction) (m_STROKE : mg "STROKE" = some (.str "/" t1)) : Kx P w K mg base "read_fraction" 42 ["word"] (sp_rdf C) := by
  refine D.kx sc_read_fraction (fun vs H Q E h => ?_) (fun f cdv A outer s H vs Q E hr h => ?_)
  · obtain ⟨x, rfl, _⟩ := h; rfl
  obtain ⟨x, rfl, lx, q⟩ := h
  have szl : sizeLine = 16777216 := by decide
  have es : Str.ofString "/" = ⟨#[47]⟩ := by decide +kernel
  have l1 : (⟨#[47]⟩ : Str).length ≠ 0 := by decide
  obtain ⟨p1, p2, p3⟩ := part47 x
  refine ⟨_, (pss_cons (PS.nox (ps_set (i := 1) sc_read_fraction.nd rfl (.inl rfl) (bm0 (fun _ h => pe_bm PySem.F.plainAttrs_str PySem.F.slot_str_partition PySem.F.type_str_partition mt_partition h (pa_cons (pe_glob (v := .str "/") rfl m_STROKE ⟨_, rfl⟩) pa_nil)) (pv 0)))) (pss_cons (ps_set (i := 2) sc_read_fraction.nd rfl (.inl rfl) (pe_ifExp (pt_cmpR op_eq (pe_iA ix_tup0 (pv 1) pe_int) (pe_glob (v := .str "/") rfl m_STROKE ⟨_, rfl⟩) (nomark _)) (pe_kxE d_read_whole (hr.mono (by decide)) rfl passes_of (pa_cons (pe_iA ix_tup0 (pv 1) pe_int) pa_nil)) pe_int)) (pss_cons (ps_if (PT.nox (pt_cmpR op_lt (pv 2) pe_int (nomark _))) (pss_one (ps_raise c_NoText rfl rfl raises_of (pa_cons pe_str pa_nil))) pss_nil) (pss_one (ps_ret (pe_kA d_fraction hr (pa_cons (pe_kxE d_read_whole (hr.mono (by decide)) rfl passes_of (pa_cons (pe_iA ix_tup0 (pv 1) pe_int) pa_nil)) (pa_cons (pv 2) pa_nil)))))))), ?_⟩
  refine ⟨_, rfl, rfl, _, _, rfl, rfl, (by decide +kernel), (by (first | lia | omega)), fun p hp => ?_⟩
  have g1 := same_new hp (.tup [.str (Txt.partition x (Str.ofString "/")).1, .str (Txt.partition x (Str.ofString "/")).2.1, .str (Txt.partition x (Str.ofString "/")).2.2])
  rw [es] at *
  have hp1 : upd H p (.tup [.str (Txt.partition x ⟨#[47]⟩).1, .str (Txt.partition x ⟨#[47]⟩).2.1, .str (Txt.partition x ⟨#[47]⟩).2.2]) p = some (.tup [.str (Txt.partition x ⟨#[47]⟩).1, .str (Txt.partition x ⟨#[47]⟩).2.1, .str (Txt.partition x ⟨#[47]⟩).2.2]) := upd_same
  generalize upd H p (.tup [.str (Txt.partition x ⟨#[47]⟩).1, .str (Txt.partition x ⟨#[47]⟩).2.1, .str (Txt.partition x ⟨#[47]⟩).2.2]) = H1 at *
  have la : (Txt.partition x ⟨#[47]⟩).1.length ≤ 100000 := by
    rw [← cl_len, show cl (Txt.partition x ⟨#[47]⟩).1 = headP (cl x) from p1]
    have := congrArg List.length (head_rest (cl x))
    rw [List.length_append, cl_len] at this; (first | lia | omega)
  -- the end, with any bottom
  refine ⟨_, rfl, p, _, _, .str (Txt.partition x ⟨#[47]⟩).2.1, rfl, rfl, SqT.of hp1, rfl, ?_⟩
  have e1 : cl (Txt.partition x ⟨#[47]⟩).1 = headP (cl x) := p1
  by_cases r0 : restP (cl x) = []
  · have e2 := p2 r0
    refine ⟨rfl, _, rfl, ?_⟩
    rw [e2, decide_eq_false (show ¬ V.str Str.empty = V.str ⟨#[47]⟩ by decide)]
    refine iteF ?_
    have rf : rdF (cl x) = if (1 : Int) < 1 then none else match rdW (headP (cl x)) with | none => none | some t => some (Rat.divInt t 1) := by
      unfold rdF
      rw [if_pos r0] <;> rfl
    refine ⟨_, rfl, _, _, rfl, rfl, _, rfl, ?_⟩
    refine ite2 (fun d => ?_) (fun d => ?_)
    · exact ⟨(by show 1 ≤ sizeLine; decide), (q _ g1).2 (by rw [rf, if_pos (of_decide_eq_true d)])⟩
    · have d' : ¬ (1 : Int) < (1 : Int) := of_decide_eq_false (Bool.eq_false_iff.mpr d)
      dsimp only
      refine ⟨_, rfl, p, _, _, .str (Txt.partition x ⟨#[47]⟩).1, rfl, rfl, SqT.of hp1, rfl, _, rfl, la, fun H3 g3 => ⟨fun t ht => ?_, fun ht => ?_⟩⟩
      · refine ⟨_, rfl, t, (1 : Int), rfl, (by (first | lia | omega)), fun v H4 g4 hv => (q H4 ((g1.trans g3).trans g4)).1 _ v ?_ hv⟩
        rw [rf, if_neg d', ← e1, ht]
      · refine (q H3 (g1.trans g3)).2 ?_
        rw [rf, if_neg d', ← e1, ht]
  · obtain ⟨e2, e3⟩ := p3 r0
    refine ⟨rfl, _, rfl, ?_⟩
    rw [e2, decide_eq_true rfl]
    refine iteT ?_
    have lb : (Txt.partition x ⟨#[47]⟩).2.2.length ≤ 100000 := by
      rw [← cl_len, show cl (Txt.partition x ⟨#[47]⟩).2.2 = (restP (cl x)).tail from e3, List.length_tail]
      have := congrArg List.length (head_rest (cl x))
      rw [List.length_append, cl_len] at this; (first | lia | omega)
    have e4 : cl (Txt.partition x ⟨#[47]⟩).2.2 = (restP (cl x)).tail := e3
    refine ⟨_, rfl, p, _, _, .str (Txt.partition x ⟨#[47]⟩).2.2, rfl, rfl, SqT.of hp1, rfl, _, rfl, lb, fun H2 g2 => ⟨fun b hb => ?_, fun hb => ?_⟩⟩
    rotate_left
    · refine (q H2 (g1.trans g2)).2 ?_
      unfold rdF
      rw [if_neg r0, ← e4, hb]
    have rf : rdF (cl x) = if b < 1 then none else match rdW (headP (cl x)) with | none => none | some t => some (Rat.divInt t b) := by
      unfold rdF
      rw [if_neg r0, ← e4, hb] <;> rfl
    refine ⟨_, rfl, _, _, rfl, rfl, _, rfl, ?_⟩
    refine ite2 (fun d => ?_) (fun d => ?_)
    · exact ⟨(by show 1 ≤ sizeLine; decide), (q _ (g1.trans g2)).2 (by rw [rf, if_pos (of_decide_eq_true d)])⟩
    · have d' : ¬ b < (1 : Int) := of_decide_eq_false (Bool.eq_false_iff.mpr d)
      dsimp only
      refine ⟨_, rfl, p, _, _, .str (Txt.partition x ⟨#[47]⟩).1, rfl, rfl, SqT.of (g2 _ _ hp1), rfl, _, rfl, la, fun H3 g3 => ⟨fun t ht => ?_, fun ht => ?_⟩⟩
      · refine ⟨_, rfl, t, b, rfl, (by (first | lia | omega)), fun v H4 g4 hv => (q H4 (((g1.trans g2).trans g3).trans g4)).1 _ v ?_ hv⟩
        rw [rf, if_neg d', ← e1, ht]
      · refine (q H3 ((g1.trans g2).trans g3)).2 ?_
        rw [rf, if_neg d', ← e1, ht]
/-! read_number -/
theorem dv_lt {cs : List Nat} (h : AllDigits cs) : digitsVal cs < 10 ^ cs.length := by
  have key : ∀ (l : List Nat) (acc : Nat), (∀ c ∈ l, c ≤ 57) → l.foldl (fun acc c => acc * 10 + (c - 48)) acc < (acc + 1) * 10 ^ l.length := by
    intro l
    induction l with
    | nil => intro acc _; show acc < (acc + 1) * 1; (first | lia | omega)
    | cons c l ih =>
      intro acc hc
      have h1 := ih (acc * 10 + (c - 48)) fun x hx => hc x (List.mem_cons_of_mem _ hx)
      have h2 := hc c List.mem_cons_self
      have h3 : (acc * 10 + (c - 48) + 1) * 10 ^ l.length ≤ ((acc + 1) * 10) * 10 ^ l.length := Nat.mul_le_mul_right _ (by (first | lia | omega))
      show l.foldl _ (acc * 10 + (c - 48)) < (acc + 1) * 10 ^ (l.length + 1)
      rw [Nat.pow_succ', ← Nat.mul_assoc]
      exact Nat.lt_of_lt_of_le h1 h3
  have := key cs 0 fun c hc => (h c hc).2
  rw [Nat.zero_add, Nat.one_mul] at this
  exact this
theorem rdW_small {w : List Nat} {v : Int} (h : rdW w = some v) : v.natAbs < 10 ^ 20 := by
  have up : ∀ l : List Nat, l.length ≤ 20 → allD l = true → digitsVal l < 10 ^ 20 := fun l hl ad => Nat.lt_of_lt_of_le (dv_lt ((allD_iff l).mp ad)) (Nat.pow_le_pow_right (by decide) hl)
  unfold rdW at h
  split at h
  · split at h
    · rename_i c
      have := up _ c.1.2 c.2
      have e := Option.some.inj h
      rw [← e]; (first | lia | omega)
    · cases h
  · split at h
    · rename_i c
      have := up _ c.1.2 c.2
      have e := Option.some.inj h
      rw [← e]; (first | lia | omega)
    · cases h
theorem div_small (t b : Int) (hb : b ≠ 0) : (Rat.divInt t b).num.natAbs ≤ t.natAbs ∧ (Rat.divInt t b).den ≤ b.natAbs := by
  rw [Rat.num_divInt, Rat.den_divInt, if_neg hb]
  refine ⟨Nat.le_trans (Int.natAbs_ediv_le_natAbs _ _) ?_, Nat.div_le_self _ _⟩
  rw [Int.natAbs_mul, Int.natAbs_sign, if_neg hb, Nat.one_mul]
  exact Nat.le_refl _
theorem rdF_small {w : List Nat} {r : Rat} (h : rdF w = some r) : SmN (.q r) := by
  unfold rdF at h
  have p20 : (10 : Nat) ^ 20 < 10 ^ 21 := by decide
  have bb : ∀ b : Int, (if restP w = [] then some 1 else rdW (restP w).tail) = some b → b.natAbs < 10 ^ 20 := fun b hb => by
    split at hb
    · have := Option.some.inj hb
      rw [← this]; decide
    · exact rdW_small hb
  cases e : (if restP w = [] then some 1 else rdW (restP w).tail) with
  | none => rw [e] at h; cases h
  | some b =>
    rw [e] at h
    simp only [] at h
    split at h
    · cases h
    · rename_i nb
      cases e2 : rdW (headP w) with
      | none => rw [e2] at h; cases h
      | some t =>
        rw [e2] at h
        have er : Rat.divInt t b = r := Option.some.inj h
        have d := div_small t b (by (first | lia | omega))
        have s1 := rdW_small e2
        have s2 := bb b e
        rw [er] at d
        exact ⟨Nat.lt_of_le_of_lt d.1 (Nat.lt_trans s1 p20), Nat.lt_of_le_of_lt d.2 (Nat.lt_trans s2 p20)⟩
noncomputable def sp_rdn (C : Addr) : Sp := fun vs H Q E => ∃ (k : Int) (x : Str), vs = [.int k, .str x] ∧ KindS k ∧ x.length ≤ 100000 ∧ ∀ H', Same H H' → (∀ y v, rdN k (cl x) = some y → RN H' y v → Q v H') ∧ (rdN k (cl x) = none → E (.ref C) none H')
theorem kn_rdn {C : Addr} (c_NoText : Ec K mg "NoText" C) (D : Df K mg "read_number" ["kind", "word"] s_read_number) (d_read_fraction : Kx P w K mg base "read_fraction" 42 ["word"] (sp_rdf C)) (d_read_whole : Kx P w K mg base "read_whole" 2 ["word"] (sp_rdw C)) (d_number : Kn P w K mg base "number" 1 ["kind", "whole"] sp_number) (d_show_number : Kn P w K mg base "show_number" 42 ["kind", "told"] sp_shn) : Kx P w K mg base "read_number" 43 ["kind", "word"] (sp_rdn C) := by
  refine D.kx sc_read_number (fun vs H Q E h => ?_) (fun f cdv A outer s H vs Q E hr h => ?_)
  · obtain ⟨k, x, rfl, _⟩ := h; rfl
  obtain ⟨k, x, rfl, hs, lx, q⟩ := h
  have szl : sizeLine = 16777216 := by decide
  refine ⟨_, (pss_cons (ps_set (i := 2) sc_read_number.nd rfl (.inl rfl) (pe_ifExp (pt_cmpR op_eq (pv 0) pe_int (nomark _)) (pe_kxE d_read_fraction (hr.mono (by decide)) rfl passes_of (pa_cons (pv 1) pa_nil)) (pe_kA d_number hr (pa_cons (pv 0) (pa_cons (pe_kxE d_read_whole (hr.mono (by decide)) rfl passes_of (pa_cons (pv 1) pa_nil)) pa_nil))))) (pss_cons (ps_if (PT.nox (pt_cmpR op_ne (pe_kA d_show_number hr (pa_cons (pv 0) (pa_cons (pv 2) pa_nil))) (pv 1) (nomark _))) (pss_one (ps_raise c_NoText rfl rfl raises_of (pa_cons pe_str pa_nil))) pss_nil) (pss_one (PS.nox (ps_ret (pv 2)))))), ?_⟩
  refine ⟨_, rfl, rfl, _, rfl, ?_⟩
  by_cases k0 : k = 0
  · subst k0
    rw [decide_eq_true rfl]
    refine iteT ?_
    refine ⟨_, rfl, x, rfl, lx, fun H1 g1 => ⟨fun r v hr' hv => ?_, fun hn => (q H1 g1).2 ?_⟩⟩
    rotate_left
    · show (rdQ (cl x)).map Nb.q = none
      unfold rdQ
      rw [hn]; rfl
    refine ⟨_, rfl, _, rfl, 0, .q r, v, rfl, rfl, hv, rdF_small hr', fun y hy => ⟨_, rfl, rfl, _, rfl, ?_⟩⟩
    have hy' : cl y = shQ r := hy
    by_cases e : y = x
    · rw [decide_eq_true (show V.str y = V.str x by rw [e])]
      refine iteF ?_
      dsimp only
      refine ⟨_, rfl, (q H1 g1).1 (.q r) v ?_ hv⟩
      show (rdQ (cl x)).map Nb.q = _
      unfold rdQ
      rw [hr']
      show (if shQ r = cl x then some r else none).map Nb.q = _
      rw [if_pos (by rw [← hy', e])]; rfl
    · rw [decide_eq_false (fun z : V.str y = V.str x => e (V.str.inj z))]
      refine iteT ⟨(by show 1 ≤ sizeLine; decide), (q H1 g1).2 ?_⟩
      show (rdQ (cl x)).map Nb.q = _
      unfold rdQ
      rw [hr']
      show (if shQ r = cl x then some r else none).map Nb.q = _
      rw [if_neg (fun z => e (cl_inj (hy'.trans z)))]; rfl
  · rw [decide_eq_false (fun z : V.int k = V.int 0 => k0 (V.int.inj z))]
    refine iteF ?_
    have hp : 1 < k ∧ k < 99 := by
      rcases hs with h | h
      · exact absurd h k0
      · exact ⟨h.lo, h.hi⟩
    have rdn : rdN k (cl x) = (rdR k.toNat (cl x)).map fun n => Nb.z (n : Int) := by unfold rdN; rw [if_neg k0]
    refine ⟨_, rfl, _, rfl, x, rfl, lx, fun H1 g1 => ⟨fun v hv => ?_, fun hn => (q H1 g1).2 ?_⟩⟩
    rotate_left
    · rw [rdn]
      unfold rdR
      rw [hn]; rfl
    refine ⟨k, v, rfl, fun u H2 g2 hu => ?_⟩
    have e0 : nnum k v = .z (v.fmod k) := by unfold nnum; rw [if_neg k0]
    rw [e0] at hu
    have f0 := Int.fmod_nonneg_of_pos v (show (0 : Int) < k by (first | lia | omega))
    have f1 := Int.fmod_lt_of_pos v (show (0 : Int) < k by (first | lia | omega))
    have ek : ((k.toNat : Nat) : Int) = k := by (first | lia | omega)
    have p21 : 99 < (10 : Nat) ^ 21 := by decide
    have sm : SmN (.z (v.fmod k)) := show (v.fmod k).natAbs < 10 ^ 21 by (first | lia | omega)
    refine ⟨_, rfl, _, rfl, k, .z (v.fmod k), u, rfl, ⟨k0, f0, f1⟩, hu, sm, fun y hy => ⟨_, rfl, rfl, _, rfl, ?_⟩⟩
    have hy' : cl y = shI (v.fmod k) := hy
    have esh : shI (v.fmod k) = dec (v.fmod k).toNat := by
      unfold shI
      rw [if_neg (by (first | lia | omega)), show (v.fmod k).natAbs = (v.fmod k).toNat by (first | lia | omega)]
    have rdr : rdR k.toNat (cl x) = if dec (v.fmod k).toNat = cl x then some (v.fmod k).toNat else none := by
      unfold rdR
      rw [hv, ek]
    by_cases e : y = x
    · rw [decide_eq_true (show V.str y = V.str x by rw [e])]
      refine iteF ?_
      dsimp only
      refine ⟨_, rfl, (q H2 (g1.trans g2)).1 (.z (v.fmod k)) u ?_ hu⟩
      rw [rdn, rdr, if_pos (by rw [← esh, ← hy', e])]
      show some (Nb.z (((v.fmod k).toNat : Nat) : Int)) = _
      rw [show (((v.fmod k).toNat : Nat) : Int) = v.fmod k by (first | lia | omega)]
    · rw [decide_eq_false (fun z : V.str y = V.str x => e (V.str.inj z))]
      refine iteT ⟨(by show 1 ≤ sizeLine; decide), (q H2 (g1.trans g2)).2 ?_⟩
      rw [rdn, rdr, if_neg (fun z => e (cl_inj (hy'.trans (esh.trans z))))]; rfl
--SPLIT
/-! read_table -/
theorem kit_sy (K : PySem.W.Frag) : PySem.W.kitOne K (.type "str") (.type "str") = some true := by unfold PySem.W.kitOne; rw [if_pos (by decide)]
theorem kit_one (K : PySem.W.Frag) {a b : String} {r : Bool} (h1 : ¬ (a = b)) (h2 : PySem.W.kitMeta b = true) (h3 : (PySem.fastBuiltinMro a).map (·.contains (Value.type b)) = some r) : PySem.W.kitOne K (.type a) (.type b) = some r := by
  unfold PySem.W.kitOne
  rw [if_neg (by intro e; exact h1 (Value.type.inj (by simpa using e)))]
  show (if PySem.W.kitMeta b = true then PySem.W.subIn K (.type a) (.type b) else none) = some r
  rw [if_pos h2]
  exact h3
theorem kit_ny (K : PySem.W.Frag) : PySem.W.kitOne K (.type "NoneType") (.type "str") = some false := kit_one K (by decide) (by decide +kernel) (by decide +kernel)
theorem kit_iy (K : PySem.W.Frag) : PySem.W.kitOne K (.type "int") (.type "str") = some false := kit_one K (by decide) (by decide +kernel) (by decide +kernel)
/-- what a reader is handed -/
noncomputable def TxV (v : V) : Prop := (∃ x : Str, v = .str x ∧ x.length ≤ 50000) ∨ v = .non ∨ ∃ i, v = .int i
noncomputable def sp_rdt (C : Addr) : Sp := fun vs H Q E => ∃ (k : Int) (v : V), vs = [.int k, v] ∧ KindS k ∧ TxV v ∧ ∀ H', Same H H' → (∀ x M t ras, v = .str x → rdT k x = some M → TabAt H' M t ras → Q (.ref t) H') ∧ ((∀ x, v = .str x → rdT k x = none) → E (.ref C) none H')
theorem kn_rdt {C : Addr} {t1 t2 t3 t4 : Nat} (c_NoText : Ec K mg "NoText" C) (D : Df K mg "read_table" ["kind", "text"] s_read_table) (d_read_number : Kx P w K mg base "read_number" 43 ["kind", "word"] (sp_rdn C)) (m_BETWEEN_ROWS : mg "BETWEEN_ROWS" = some (.str "; " t1)) (m_BETWEEN_NUMBERS : mg "BETWEEN_NUMBERS" = some (.str " " t2)) (m_MOST_ROWS : mg "MOST_ROWS" = some (.int 12 t3)) (m_MOST_COLUMNS : mg "MOST_COLUMNS" = some (.int 12 t4)) (m_len : mg "len" = none) (m_any : mg "any" = none) (m_isinstance : mg "isinstance" = none) (m_str : mg "str" = none) : Kx P w K mg base "read_table" 44 ["kind", "text"] (sp_rdt C) := by
  refine D.kx sc_read_table (fun vs H Q E h => ?_) (fun f cdv A outer s H vs Q E hr h => ?_)
  · obtain ⟨k, v, rfl, _⟩ := h; rfl
  obtain ⟨k, v, rfl, hs, tv, q⟩ := h
  have szl : sizeLine = 16777216 := by decide
  refine ⟨_, (pss_cons (ps_if (PT.nox (pt_not (pt_val (pe_callB (call_isiK (K := K) rfl) rfl m_isinstance bb_isinstance (pa_cons (pv 1) (pa_cons (pe_ty rfl m_str bb_str) pa_nil)))))) (pss_one (ps_raise c_NoText rfl rfl raises_of (pa_cons pe_str pa_nil))) pss_nil) (pss_cons (ps_cX lets_of 2 sc_read_table.nd ["kind"] [0] (pi_list0 (bm0 (fun _ h => pe_bm PySem.F.plainAttrs_str PySem.F.slot_str_split PySem.F.type_str_split mt_split h (pa_cons (pe_glob (v := .str "; ") rfl m_BETWEEN_ROWS ⟨_, rfl⟩) pa_nil)) (pv 1))) fun _ _ _ _ _ _ => ⟨pts_nil, (pe_cX lets_of.blk ["kind"] [1] (pi_list0 (bm0 (fun _ h => pe_bm PySem.F.plainAttrs_str PySem.F.slot_str_split PySem.F.type_str_split mt_split h (pa_cons (pe_glob (v := .str " ") rfl m_BETWEEN_NUMBERS ⟨_, rfl⟩) pa_nil)) (pv 0))) fun _ _ _ _ _ _ => ⟨pts_nil, (pe_kxE d_read_number (hr.mono (by decide)) rfl bw_passes (pa_cons (pv 1) (pa_cons (pv 0) pa_nil)))⟩)⟩) (pss_cons (PS.nox (ps_set (i := 3) sc_read_table.nd rfl (.inr rfl) (pe_callB call_len0 rfl m_len bb_len (pa_cons (pe_iA ix_list0 (pv 2) pe_int) pa_nil)))) (pss_cons (ps_if (PT.nox (PW.pt (pw_or (pt_cmpR op_gt (pe_callB call_len0 rfl m_len bb_len (pa_cons (pv 2) pa_nil)) (pe_glob (v := .int 12) rfl m_MOST_ROWS ⟨_, rfl⟩) (nomark _)) (pw_or1 (pt_cmpR op_gt (pv 3) (pe_glob (v := .int 12) rfl m_MOST_COLUMNS ⟨_, rfl⟩) (nomark _)))))) (pss_one (ps_raise c_NoText rfl rfl raises_of (pa_cons pe_str pa_nil))) pss_nil) (pss_cons (ps_if (PT.nox (pt_val (pe_callB (call_any0 rfl) rfl m_any bb_any (pa_cons (pe_cN ["width"] [3] (pi_list0 (pv 2)) fun _ _ _ _ _ _ => ⟨pts_nil, (pe_cmpR op_ne (pe_callB call_len0 rfl m_len bb_len (pa_cons (pv 0) pa_nil)) (pv 1) (nomark _))⟩) pa_nil)))) (pss_one (ps_raise c_NoText rfl rfl raises_of (pa_cons pe_str pa_nil))) pss_nil) (pss_one (PS.nox (ps_ret (pv 2))))))))), ?_⟩
  rcases tv with ⟨x, rfl, lx⟩ | rfl | ⟨i, rfl⟩
  rotate_left
  · refine ⟨_, rfl, _, _, _, _, rfl, TyOf.non, kit_ny K, _, rfl, iteT ⟨(by show 1 ≤ sizeLine; decide), (q H (Same.refl _)).2 fun x e => nomatch e⟩⟩
  · refine ⟨_, rfl, _, _, _, _, rfl, TyOf.int i, kit_iy K, _, rfl, iteT ⟨(by show 1 ≤ sizeLine; decide), (q H (Same.refl _)).2 fun x e => nomatch e⟩⟩
  refine ⟨_, rfl, _, _, _, _, rfl, TyOf.str x, kit_sy K, _, rfl, iteF ?_⟩
  dsimp only
  have sz := split_sz (y := Str.ofString "; ") (show x.length ≤ 100000 by (first | lia | omega))
  have no : ∀ H', Same H H' → rdT k x = none → E (.ref C) none H' := fun H' g e => (q H' g).2 fun y ey => by cases V.str.inj ey; exact e
  refine ⟨_, rfl, rfl, _, _, rfl, rfl, (by decide +kernel), (by (first | lia | omega)), sz.1, sz.2, fun pl hpl => ?_⟩
  have g1 := same_new hpl (.lst ((Txt.split x (Str.ofString "; ")).map V.str))
  have hl1 : upd H pl (.lst ((Txt.split x (Str.ofString "; ")).map V.str)) pl = some (.lst ((Txt.split x (Str.ofString "; ")).map V.str)) := upd_same
  generalize upd H pl (.lst ((Txt.split x (Str.ofString "; ")).map V.str)) = H1 at *
  have hpart : ∀ y ∈ Txt.split x (Str.ofString "; "), y.length ≤ 50000 := fun y hy => Nat.le_trans (split_part hy) lx
  have eW : (wordsT x).map (fun r => r.map fun w => rdN k (cl w)) = (Txt.split x (Str.ofString "; ")).map fun y => (Txt.split y (Str.ofString " ")).map fun w => rdN k (cl w) := by unfold wordsT; rw [List.map_map]; rfl
  have lW : (Txt.split x (Str.ofString "; ")).length = (wordsT x).length := by unfold wordsT; rw [List.length_map]
  have l1 := words_pos x
  have erd : rdT k x = okT ((Txt.split x (Str.ofString "; ")).map fun y => (Txt.split y (Str.ofString " ")).map fun w => rdN k (cl w)) := by unfold rdT; rw [eW]
  rw [← lW] at l1
  clear eW lW
  have lps : (Txt.split x (Str.ofString "; ")).length ≤ 50002 := Nat.le_trans (fact_split x _).2 (by (first | lia | omega))
  generalize Txt.split x (Str.ofString "; ") = ps at *
  refine ⟨pl, rfl, ⟨_, SqL.of hl1⟩, ?_⟩
  refine comp_list (xs := ps.map V.str) (fun i ys H' => ∃ M ras, ys = ras.map V.ref ∧ Grow H1 H' M ras ∧ ((ps.map fun y => (Txt.split y (Str.ofString " ")).map fun w => rdN k (cl w)).take i) = M.map fun r => r.map some) ⟨[], [], rfl, Grow.nil H1 (Same.refl _), rfl⟩ ?_ ?_ ?_
  · rintro i ys H' hi ⟨M, ras, rfl, G, e⟩
    refine ⟨SqL.of (G.same _ _ hl1), ?_⟩
    have e1 := pd_len G.rows
    have e2 := congrArg List.length e
    rw [List.length_take, List.length_map, List.length_map] at e2
    rw [List.length_map] at hi ⊢; (first | lia | omega)
  · rintro i v ys H' hv hi ⟨M, ras, rfl, G, e⟩
    rw [List.getElem?_map] at hv
    obtain ⟨y, hy, rfl⟩ := Option.map_eq_some_iff.mp hv
    have ly := hpart y (List.mem_of_getElem? hy)
    have sz2 := split_sz (y := Str.ofString " ") (show y.length ≤ 100000 by (first | lia | omega))
    have eY : (ps.map fun y => (Txt.split y (Str.ofString " ")).map fun w => rdN k (cl w))[i]? = some ((Txt.split y (Str.ofString " ")).map fun w => rdN k (cl w)) := by rw [List.getElem?_map, hy]; rfl
    first | refine gyes ?_ | refine tyes ?_
    refine ⟨_, rfl, rfl, _, _, rfl, rfl, (by decide +kernel), (by (first | lia | omega)), sz2.1, sz2.2, fun p2 hp2 => ?_⟩
    have g2 := same_new hp2 (.lst ((Txt.split y (Str.ofString " ")).map V.str))
    have hl2 : upd H' p2 (.lst ((Txt.split y (Str.ofString " ")).map V.str)) p2 = some (.lst ((Txt.split y (Str.ofString " ")).map V.str)) := upd_same
    have G2 := G.mono g2
    generalize upd H' p2 (.lst ((Txt.split y (Str.ofString " ")).map V.str)) = H2 at *
    have hw : ∀ z ∈ Txt.split y (Str.ofString " "), z.length ≤ 50000 := fun z hz => Nat.le_trans (split_part hz) ly
    have lws : (Txt.split y (Str.ofString " ")).length ≤ 50002 := Nat.le_trans (fact_split y _).2 (by (first | lia | omega))
    generalize Txt.split y (Str.ofString " ") = ws at *
    refine ⟨p2, rfl, ⟨_, SqL.of hl2⟩, ?_⟩
    refine comp_list (xs := ws.map V.str) (fun j ys2 H3 => ∃ xs, Same H2 H3 ∧ Paired (RN H3) xs ys2 ∧ ((ws.map fun w => rdN k (cl w)).take j) = xs.map some) ⟨[], Same.refl _, .nil, rfl⟩ ?_ ?_ ?_
    · rintro j ys2 H3 hj ⟨xs, g3, pr, e3⟩
      refine ⟨SqL.of (g3 _ _ hl2), ?_⟩
      have e1 := pd_len pr
      have e2 := congrArg List.length e3
      rw [List.length_take, List.length_map, List.length_map] at e2
      rw [List.length_map] at hj; (first | lia | omega)
    · rintro j u ys2 H3 hu hj ⟨xs, g3, pr, e3⟩
      rw [List.getElem?_map] at hu
      obtain ⟨z, hz, rfl⟩ := Option.map_eq_some_iff.mp hu
      have lz := hw z (List.mem_of_getElem? hz)
      have eZ : (ws.map fun w => rdN k (cl w))[j]? = some (rdN k (cl z)) := by rw [List.getElem?_map, hz]; rfl
      first | refine gyes ?_ | refine tyes ?_
      refine ⟨_, rfl, _, rfl, k, z, rfl, hs, (by (first | lia | omega)), fun H4 g4 => ⟨fun a v ha hv => nxt hj ⟨xs ++ [a], g3.trans g4, pd_snoc (pd_rn g4 pr) hv, ?_⟩, fun hn => no H4 (((g1.trans G2.same).trans g3).trans g4) ?_⟩⟩
      · rw [take_snoc eZ, e3, ha, List.map_append]; rfl
      · rw [erd]
        exact okT_none (List.mem_of_getElem? eY) (by rw [← hn]; exact List.mem_of_getElem? eZ)
    · rintro ys2 H3 ⟨xs, g3, pr, e3⟩ p3 hp3
      rw [List.length_map, List.take_of_length_le (by rw [List.length_map]; exact Nat.le_refl _)] at e3
      refine nxt hi ⟨M ++ [xs], ras ++ [p3], by rw [List.map_append]; rfl, (G2.mono g3).snoc hp3 pr, ?_⟩
      rw [take_snoc eY, e, e3, List.map_append]; rfl
  rintro ys H2 ⟨M, ras, rfl, G, e⟩ pt hpt
  rw [List.length_map, List.take_of_length_le (by rw [List.length_map]; exact Nat.le_refl _)] at e
  rw [e, okT_all] at erd
  have N2 := G.done hpt
  have g2 := g1.trans (G.same.trans (same_new hpt (.lst (ras.map V.ref))))
  have lM : M.length = ps.length := by have := congrArg List.length e; rw [List.length_map, List.length_map] at this; exact this.symm
  generalize upd H2 pt (.lst (ras.map V.ref)) = H3 at *
  have hT := N2.tab
  have lr := pd_len hT.2
  -- the width
  obtain ⟨r0, M', eM⟩ := List.exists_cons_of_ne_nil (show M ≠ [] from fun z => by rw [z] at lM; simp at lM; (first | lia | omega))
  have eh : M.headD [] = r0 := by rw [eM]; rfl
  rw [eh] at erd
  obtain ⟨a0, ea0, ha0⟩ := pd_left hT.2 (show M[0]? = some r0 by rw [eM]; rfl)
  obtain ⟨us0, hu0, pu0, lu0⟩ := ha0.len
  refine ⟨_, rfl, pt, _, _, .ref a0, rfl, rfl, SqL.of hT.1, atI_nat (j := 0) (by rw [List.getElem?_map, ea0]; rfl), a0, _, rfl, .inl (SqL.of hu0), ?_⟩
  rw [lu0]
  refine ⟨_, rfl, pt, _, rfl, .inl (SqL.of hT.1), _, _, rfl, rfl, _, rfl, ?_⟩
  rw [List.length_map, ← lr]
  refine ite2 (fun d => ?_) (fun d => ?_)
  · refine ⟨(by show 1 ≤ sizeLine; decide), no _ g2 ?_⟩
    have d' : (12 : Int) < (M.length : Int) := of_decide_eq_true d
    rw [erd, if_neg fun z => by have := z.2.2; (first | lia | omega)]
  have d' : ¬ (12 : Int) < (M.length : Int) := of_decide_eq_false (Bool.eq_false_iff.mpr d)
  refine ⟨_, rfl, _, _, rfl, rfl, _, rfl, ?_⟩
  refine ite2 (fun d2 => ?_) (fun d2 => ?_)
  · refine ⟨(by show 1 ≤ sizeLine; decide), no _ g2 ?_⟩
    have d2' : (12 : Int) < (r0.length : Int) := of_decide_eq_true d2
    rw [erd, if_neg fun z => by have := z.2.1; (first | lia | omega)]
  have d2' : ¬ (12 : Int) < (r0.length : Int) := of_decide_eq_false (Bool.eq_false_iff.mpr d2)
  dsimp only
  -- rows of one length
  refine ⟨_, rfl, pt, rfl, ⟨_, SqL.of hT.1⟩, ?_⟩
  refine comp_list (xs := ras.map V.ref) (fun i ys H' => H' = H3 ∧ ys = ((M.map fun r => !decide (V.int (r.length : Int) = V.int (r0.length : Int))).take i).map V.bl) ⟨rfl, rfl⟩ ?_ ?_ ?_
  · rintro i ys H' hi ⟨rfl, rfl⟩
    refine ⟨SqL.of hT.1, ?_⟩
    rw [List.length_map, List.length_take, List.length_map]; (first | lia | omega)
  · rintro i v ys H' hv hi ⟨rfl, rfl⟩
    obtain ⟨row, a, hrow, ha, rfl, hR⟩ := hT.row hv
    obtain ⟨us, hu, pu, lu⟩ := hR.len
    first | refine gyes ?_ | refine tyes ?_
    refine ⟨_, rfl, a, _, rfl, .inl (SqL.of hu), _, rfl, rfl, nxt hi ⟨rfl, ?_⟩⟩
    have ex : (M.map fun r => !decide (V.int (r.length : Int) = V.int (r0.length : Int)))[i]? = some (!decide (V.int (row.length : Int) = V.int (r0.length : Int))) := by rw [List.getElem?_map, hrow]; rfl
    rw [take_snoc ex, List.map_append, lu]; rfl
  rintro ys H4 ⟨rfl, rfl⟩ pb hpb
  rw [List.length_map, List.take_of_length_le (by rw [List.length_map]; (first | lia | omega))]
  have g4 := g2.trans (same_new hpb (.lst ((M.map fun r => !decide (V.int (r.length : Int) = V.int (r0.length : Int))).map V.bl)))
  refine ⟨pb, _, rfl, upd_same, _, rfl, ?_⟩
  have ea : (M.map fun r => !decide (V.int (r.length : Int) = V.int (r0.length : Int))).any id = !decide (∀ r ∈ M, r.length = r0.length) := by
    rw [Bool.eq_iff_iff, List.any_eq_true, Bool.not_eq_true', decide_eq_false_iff_not]
    constructor
    · rintro ⟨b, hb, e⟩ z
      obtain ⟨r, hr', rfl⟩ := List.mem_map.mp hb
      rw [z r hr', decide_eq_true rfl] at e
      exact absurd e (by decide)
    · intro z
      refine Classical.byContradiction fun n => z fun r hr' => Classical.byContradiction fun ne => n ⟨_, List.mem_map.mpr ⟨r, hr', rfl⟩, ?_⟩
      rw [decide_eq_false (fun y => ne (by have := V.int.inj y; (first | lia | omega)))]; rfl
  rw [ea]
  by_cases all : ∀ r ∈ M, r.length = r0.length
  · rw [decide_eq_true all]
    refine iteF ?_
    dsimp only
    rw [if_pos ⟨all, by (first | lia | omega), by (first | lia | omega)⟩] at erd
    exact ⟨_, rfl, (q _ g4).1 x M pt ras rfl erd (hT.mono (same_new hpb _))⟩
  · rw [decide_eq_false all]
    refine iteT ⟨(by show 1 ≤ sizeLine; decide), no _ g4 ?_⟩
    rw [erd, if_neg fun z => all z.1]
--SPLIT
theorem kit_of {K : PySem.W.Frag} {a b : String} {r : Bool} (h1 : ¬ (a = b)) (h2 : PySem.W.kitMeta b = true) (h3 : (PySem.fastBuiltinMro a).map (·.contains (Value.type b)) = some r) : PySem.W.kitOne K (.type a) (.type b) = some r := by
  unfold PySem.W.kitOne
  rw [if_neg (by intro e; exact h1 (Value.type.inj (by simpa using e)))]
  show (if PySem.W.kitMeta b = true then PySem.W.subIn K (.type a) (.type b) else none) = some r
  rw [if_pos h2]
  exact h3
theorem kit_ll (K : PySem.W.Frag) : PySem.W.kitOne K (.type "list") (.type "list") = some true := by unfold PySem.W.kitOne; rw [if_pos (by decide)]
theorem kit_tb (K : PySem.W.Frag) : PySem.W.kitOne K (.type "tuple") (.type "bool") = some false := kit_of (by decide) (by decide +kernel) (by decide +kernel)
theorem kit_it (K : PySem.W.Frag) : PySem.W.kitOne K (.type "int") (.type "tuple") = some false := kit_of (by decide) (by decide +kernel) (by decide +kernel)
theorem mulok_right {a b : Int} (h0 : -(2 ^ 64) < b) (h1 : b < 2 ^ 64) : IntMulOk a b := IntMulOk.of_right (intBits_le_64 h0 h1)
theorem mulok_left {a b : Int} (h0 : -(2 ^ 64) < a) (h1 : a < 2 ^ 64) : IntMulOk a b := IntMulOk.of_left (intBits_le_64 h0 h1)
/-! _law_mix -/
noncomputable def mixF (c j : Int) : Int := if (c.fmod 2 = 1 ∧ c / 2 ^ (27 : Int).toNat ≠ 0) then (c / 2 ^ (1 + 20 * j).toNat).fmod 1048576
  else ((((c * (2 * j + 3) + j).fmod 2147483629 * (c * (2 * j + 3) + j).fmod 2147483629 + 1) * 48271).fmod 2147483629 * (((c * (2 * j + 3) + j).fmod 2147483629 * (c * (2 * j + 3) + j).fmod 2147483629 + 1) * 48271).fmod 2147483629).fmod 2147483587
theorem mixF_bd (c j : Int) : 0 ≤ mixF c j ∧ mixF c j < 2147483648 := by
  unfold mixF
  split
  · have h0 := Int.fmod_nonneg_of_pos (c / 2 ^ (1 + 20 * j).toNat) (show (0 : Int) < 1048576 by decide)
    have h1 := Int.fmod_lt_of_pos (c / 2 ^ (1 + 20 * j).toNat) (show (0 : Int) < 1048576 by decide)
    (first | lia | omega)
  · generalize (((c * (2 * j + 3) + j).fmod 2147483629 * (c * (2 * j + 3) + j).fmod 2147483629 + 1) * 48271).fmod 2147483629 = x
    have h0 := Int.fmod_nonneg_of_pos (x * x) (show (0 : Int) < 2147483587 by decide)
    have h1 := Int.fmod_lt_of_pos (x * x) (show (0 : Int) < 2147483587 by decide)
    (first | lia | omega)
noncomputable def sp_mix : Sp := fun vs H Q _ => ∃ (c j : Int), vs = [.int c, .int j] ∧ 0 ≤ j ∧ j ≤ 1000000 ∧ Q (.int (mixF c j)) H
theorem kn_mix (D : Df K mg "_law_mix" ["_law_cell", "_law_j"] s__law_mix) : Kn P w K mg base "_law_mix" 1 ["_law_cell", "_law_j"] sp_mix := by
  refine D.kn sc__law_mix (fun vs H Q E h => ?_) (fun f cdv A outer s H vs Q E hr h => ?_)
  · obtain ⟨c, j, rfl, _⟩ := h; rfl
  obtain ⟨c, j, rfl, j0, j1, q⟩ := h
  refine ⟨_, (pss_cons (ps_if (PW.pt (pw_and (pt_cmpR op_eq (pe_op op_modN (pv 0) pe_int) pe_int (nomark _)) (pw_and1 (pt_cmpR op_ne (pe_op op_shr (pv 0) pe_int) pe_int (nomark _))))) (pss_one (ps_ret (pe_op op_modN (pe_op op_shr (pv 0) (pe_op op_add pe_int (pe_op op_mulB pe_int (pv 1)))) pe_int))) pss_nil) (pss_cons (ps_set (i := 2) sc__law_mix.nd rfl (.inl rfl) (pe_op op_modN (pe_op op_add (pe_op op_mulB (pv 0) (pe_op op_add (pe_op op_mulB pe_int (pv 1)) pe_int)) (pv 1)) pe_int)) (pss_cons (ps_set (i := 2) sc__law_mix.nd rfl (.inl rfl) (pe_op op_modN (pe_op op_mulB (pe_op op_add (pe_op op_mulB (pv 2) (pv 2)) pe_int) pe_int) pe_int)) (pss_one (ps_ret (pe_op op_modN (pe_op op_mulB (pv 2) (pv 2)) pe_int)))))), ?_⟩
  have n1 : (2147483629 : Int) ≠ 0 := by decide
  have n2 : (2147483587 : Int) ≠ 0 := by decide
  have n3 : (1048576 : Int) ≠ 0 := by decide
  have a0 := Int.fmod_nonneg_of_pos (c * (2 * j + 3) + j) (show (0 : Int) < 2147483629 by decide)
  have a1 := Int.fmod_lt_of_pos (c * (2 * j + 3) + j) (show (0 : Int) < 2147483629 by decide)
  have b0 := Int.fmod_nonneg_of_pos (((c * (2 * j + 3) + j).fmod 2147483629 * (c * (2 * j + 3) + j).fmod 2147483629 + 1) * 48271) (show (0 : Int) < 2147483629 by decide)
  have b1 := Int.fmod_lt_of_pos (((c * (2 * j + 3) + j).fmod 2147483629 * (c * (2 * j + 3) + j).fmod 2147483629 + 1) * 48271) (show (0 : Int) < 2147483629 by decide)
  refine ⟨_, rfl, _, _, rfl, rfl, (by show (2 : Int) ≠ 0; decide), rfl, _, rfl, ?_⟩
  refine ite2 (fun c1 => ?_) (fun c1 => ?_)
  · have d1 : c.fmod 2 = 1 := V.int.inj (of_decide_eq_true c1)
    refine ⟨_, rfl, _, _, rfl, rfl, (by show (0 : Int) ≤ 27; decide), rfl, _, rfl, ?_⟩
    refine ite2 (fun c2 => ?_) (fun c2 => ?_)
    · have d2 : c / 2 ^ (27 : Int).toNat ≠ 0 := fun z => by
        have c2' : (!decide (V.int (c / 2 ^ (27 : Int).toNat) = V.int 0)) = true := c2
        rw [z] at c2'; exact absurd c2' (by decide)
      have e : mixF c j = (c / 2 ^ (1 + 20 * j).toNat).fmod 1048576 := by unfold mixF; rw [if_pos ⟨d1, d2⟩]
      rw [e] at q
      exact ⟨_, rfl, _, rfl, _, _, rfl, rfl, mulok_left (by decide) (by decide), _, _, rfl, rfl, _, _, rfl, rfl, (by (first | lia | omega)), _, _, rfl, rfl, n3, q⟩
    · have d2 : ¬ (c.fmod 2 = 1 ∧ c / 2 ^ (27 : Int).toNat ≠ 0) := fun ⟨_, h⟩ => by
        have h' : ¬ V.int (c / 2 ^ (27 : Int).toNat) = V.int 0 := fun e => h (V.int.inj e)
        have c2' : ¬ (!decide (V.int (c / 2 ^ (27 : Int).toNat) = V.int 0)) = true := c2
        rw [decide_eq_false h'] at c2'
        exact c2' rfl
      unfold mixF at q
      rw [if_neg d2] at q
      exact ⟨_, rfl, _, rfl, _, _, rfl, rfl, mulok_left (by decide) (by decide), _, _, rfl, rfl, _, _, rfl, rfl, mulok_right (by (first | lia | omega)) (by (first | lia | omega)), _, rfl, _, _, rfl, rfl, _, _, rfl, rfl, n1, _, rfl, _, rfl, _, _, rfl, rfl, mulok_left (by (first | lia | omega)) (by (first | lia | omega)), _, _, rfl, rfl, _, _, rfl, rfl, mulok_right (by decide) (by decide), _, _, rfl, rfl, n1, _, rfl, _, rfl, _, _, rfl, rfl, mulok_left (by (first | lia | omega)) (by (first | lia | omega)), _, _, rfl, rfl, n2, q⟩
  · have d2 : ¬ (c.fmod 2 = 1 ∧ c / 2 ^ (27 : Int).toNat ≠ 0) := fun ⟨h, _⟩ => c1 (show decide (V.int (c.fmod 2) = V.int 1) = true by rw [h]; decide)
    unfold mixF at q
    rw [if_neg d2] at q
    refine iteF ?_
    exact ⟨_, rfl, _, rfl, _, _, rfl, rfl, mulok_left (by decide) (by decide), _, _, rfl, rfl, _, _, rfl, rfl, mulok_right (by (first | lia | omega)) (by (first | lia | omega)), _, rfl, _, _, rfl, rfl, _, _, rfl, rfl, n1, _, rfl, _, rfl, _, _, rfl, rfl, mulok_left (by (first | lia | omega)) (by (first | lia | omega)), _, _, rfl, rfl, _, _, rfl, rfl, mulok_right (by decide) (by decide), _, _, rfl, rfl, n1, _, rfl, _, rfl, _, _, rfl, rfl, mulok_left (by (first | lia | omega)) (by (first | lia | omega)), _, _, rfl, rfl, n2, q⟩
/-! _law_divisor -/
theorem kn_div (D : Df K mg "_law_divisor" ["_law_one", "_law_other"] s__law_divisor) (m_abs : mg "abs" = none) : Kn P w K mg base "_law_divisor" 1 ["_law_one", "_law_other"] sp_cd := by
  refine D.kn sc__law_divisor (fun vs H Q E h => ?_) (fun f cdv A outer s H vs Q E hr h => ?_)
  · obtain ⟨a, b, rfl, _⟩ := h; rfl
  obtain ⟨a, b, rfl, q⟩ := h
  refine ⟨_, (pss_cons (ps_while PassesOwn.never (pt_cmpR op_ne (pv 1) pe_int (nomark _)) (pss_one (ps_par (i := 0) (j := 1) rfl sc__law_divisor.nd rfl rfl (by decide) rfl rfl (pa_cons (pv 1) (pa_cons (pe_op op_modN (pv 0) (pv 1)) pa_nil)) rfl))) (pss_one (ps_ret (pe_callB call_abs rfl m_abs bb_abs (pa_cons (pv 0) pa_nil))))), ?_⟩
  refine ⟨fun m σ H' => ∃ l r, σ = [some (.int l), some (.int r)] ∧ H' = H ∧ Int.gcd l r = Int.gcd a b ∧ m = r.natAbs, ⟨_, _, _, rfl, rfl, rfl, rfl⟩, ?_⟩
  rintro m σ H' ⟨l, r, rfl, rfl, g, rfl⟩
  refine ⟨_, rfl, rfl, _, rfl, ?_⟩
  refine ite2 (fun c => ?_) (fun c => ?_)
  · have c' : r ≠ 0 := fun z => by rw [z] at c; exact absurd c (by decide)
    refine ⟨_, fun _ _ h => h, ?_⟩
    exact ⟨_, rfl, _, rfl, _, rfl, _, _, rfl, rfl, c', _, _, rfl, _, fmod_small l c', r, l.fmod r, rfl, rfl, (gcd_fmod l r).trans g, rfl⟩
  · have c' : r = 0 := by
      by_cases h : r = 0
      · exact h
      · exact absurd (by have h' : ¬ V.int r = V.int 0 := fun z => h (V.int.inj z)
                         rw [decide_eq_false h']; rfl) c
    subst c'
    refine ⟨_, rfl, l, rfl, ?_⟩
    have e : (if l < 0 then -l else l) = ((Int.gcd a b : Nat) : Int) := by rw [abs_if, ← g, Int.gcd_zero]
    show Q (.int (if l < 0 then -l else l)) H'
    rw [e]; exact q
/-! _law_number -/
theorem ten20 : (10 : Int) ^ (20 : Int).toNat = 100000000000000000000 := by decide +kernel
noncomputable def pk (i : Int) : Int := if i = 0 then 1 else if i = 1 then 9 else 10 ^ (20 : Int).toNat - 1
theorem pk_bd (i : Int) : 1 ≤ pk i ∧ pk i ≤ 99999999999999999999 := by
  unfold pk
  rw [ten20]
  split
  · (first | lia | omega)
  · split <;> (first | lia | omega)
noncomputable def topF (c j : Int) : Int := if (mixF c j).fmod 8 = 1 then (c * (j + 7) + mixF c j).fmod (2 * 10 ^ (20 : Int).toNat - 1) - (10 ^ (20 : Int).toNat - 1) else (((mixF c j).fdiv 8).fmod 13 - 6) * (if decide (0 < (mixF c j).fmod 8) = true then 1 else 0)
noncomputable def botF (c j : Int) : Int := if (mixF c j).fmod 8 = 1 then 1 + (c * (j + 11) + mixF c j).fmod (pk (((mixF c j).fdiv 8).fmod 3)) else 1 + ((mixF c j).fdiv 104).fmod 6
noncomputable def numF (k c j : Int) : Nb := if 0 < k then .z (((mixF c j).fdiv 4).fmod k * (if decide (0 < (mixF c j).fmod 4) = true then 1 else 0)) else .q (Rat.divInt (topF c j) (botF c j))
theorem top_bd (c j : Int) : (topF c j).natAbs < 10 ^ 20 := by
  have e : (10 : Nat) ^ 20 = 100000000000000000000 := by decide
  unfold topF
  rw [ten20, e]
  split
  · have h0 := Int.fmod_nonneg_of_pos (c * (j + 7) + mixF c j) (show (0 : Int) < 2 * 100000000000000000000 - 1 by decide)
    have h1 := Int.fmod_lt_of_pos (c * (j + 7) + mixF c j) (show (0 : Int) < 2 * 100000000000000000000 - 1 by decide)
    (first | lia | omega)
  · have t0 := Int.fmod_nonneg_of_pos ((mixF c j).fdiv 8) (show (0 : Int) < 13 by decide)
    have t1 := Int.fmod_lt_of_pos ((mixF c j).fdiv 8) (show (0 : Int) < 13 by decide)
    cases decide (0 < (mixF c j).fmod 8) with
    | true => simp only [if_true, Int.mul_one]; (first | lia | omega)
    | false => simp only [Bool.false_eq_true, if_false, Int.mul_zero]; decide
theorem bot_bd (c j : Int) : 0 < botF c j ∧ (botF c j).natAbs < 10 ^ 21 := by
  have e : (10 : Nat) ^ 21 = 1000000000000000000000 := by decide
  unfold botF
  rw [e]
  split
  · have p := pk_bd (((mixF c j).fdiv 8).fmod 3)
    have h0 := Int.fmod_nonneg_of_pos (c * (j + 11) + mixF c j) (show (0 : Int) < pk (((mixF c j).fdiv 8).fmod 3) by (first | lia | omega))
    have h1 := Int.fmod_lt_of_pos (c * (j + 11) + mixF c j) (show (0 : Int) < pk (((mixF c j).fdiv 8).fmod 3) by (first | lia | omega))
    (first | lia | omega)
  · have t0 := Int.fmod_nonneg_of_pos ((mixF c j).fdiv 104) (show (0 : Int) < 6 by decide)
    have t1 := Int.fmod_lt_of_pos ((mixF c j).fdiv 104) (show (0 : Int) < 6 by decide)
    (first | lia | omega)
theorem numF_ok {k : Int} (hk : KindS k) (c j : Int) : (numF k c j).ok k ∧ SmN (numF k c j) := by
  have e : (10 : Nat) ^ 21 = 1000000000000000000000 := by decide
  unfold numF
  split
  · rename_i k0
    have kh : k < 99 := by
      rcases hk with h | h
      · (first | lia | omega)
      · exact h.hi
    have h0 := Int.fmod_nonneg_of_pos ((mixF c j).fdiv 4) k0
    have h1 := Int.fmod_lt_of_pos ((mixF c j).fdiv 4) k0
    cases decide (0 < (mixF c j).fmod 4) with
    | true => simp only [if_true, Int.mul_one]; exact ⟨⟨by (first | lia | omega), h0, h1⟩, show _ < _ by rw [e]; (first | lia | omega)⟩
    | false => simp only [Bool.false_eq_true, if_false, Int.mul_zero]; exact ⟨⟨by (first | lia | omega), by (first | lia | omega), by (first | lia | omega)⟩, show _ < _ by rw [e]; decide⟩
  · have kz : k = 0 := by
      rcases hk with h | h
      · exact h
      · have := h.lo; (first | lia | omega)
    have b := bot_bd c j
    have t := top_bd c j
    have d := div_small (topF c j) (botF c j) (by (first | lia | omega))
    have p20 : (10 : Nat) ^ 20 < 10 ^ 21 := by decide
    exact ⟨kz, Nat.lt_of_le_of_lt d.1 (Nat.lt_trans t p20), Nat.lt_of_le_of_lt d.2 b.2⟩
noncomputable def sp_lnum : Sp := fun vs H Q _ => ∃ (k c j : Int), vs = [.int k, .int c, .int j] ∧ KindS k ∧ 0 ≤ j ∧ j ≤ 100000 ∧ ∀ v H', Same H H' → RN H' (numF k c j) v → Q v H'
theorem kn_lnum (hP : P.given.tree = none) (hS : base.NoSeer) (D : Df K mg "_law_number" ["_law_kind_here", "_law_cell", "_law_j"] s__law_number) (d__law_mix : Kn P w K mg base "_law_mix" 1 ["_law_cell", "_law_j"] sp_mix) (d__law_divisor : Kn P w K mg base "_law_divisor" 1 ["_law_one", "_law_other"] sp_cd) (m_int : mg "int" = none) : Kn P w K mg base "_law_number" 41 ["_law_kind_here", "_law_cell", "_law_j"] sp_lnum := by
  refine D.kn sc__law_number (fun vs H Q E h => ?_) (fun f cdv A outer s H vs Q E hr h => ?_)
  · obtain ⟨k, c, j, rfl, _⟩ := h; rfl
  obtain ⟨k, c, j, rfl, hk, j0, j1, q⟩ := h
  have n4 : (4 : Int) ≠ 0 := by decide
  have n8 : (8 : Int) ≠ 0 := by decide
  refine ⟨_, (pss_cons (ps_set (i := 3) sc__law_number.nd rfl (.inl rfl) (pe_kA d__law_mix hr (pa_cons (pv 1) (pa_cons (pv 2) pa_nil)))) (pss_cons (ps_if (pt_cmpR op_gt (pv 0) pe_int (nomark _)) (pss_one (ps_ret (pe_op op_mulB (pe_op op_modN (pe_op (op_fdivU hr (by decide) hP hS ⟨_, _, rfl, rfl, rfl, rfl, rfl⟩) (pv 3) pe_int) (pv 0)) (pe_callTy call_int1 rfl m_int bb_int (pa_cons (pe_cmpR op_gt (pe_op op_modN (pv 3) pe_int) pe_int (nomark _)) pa_nil))))) pss_nil) (pss_cons (ps_set (i := 4) sc__law_number.nd rfl (.inl rfl) (pe_op op_mulB (pe_op op_sub (pe_op op_modN (pe_op (op_fdivU hr (by decide) hP hS ⟨_, _, rfl, rfl, rfl, rfl, rfl⟩) (pv 3) pe_int) pe_int) pe_int) (pe_callTy call_int1 rfl m_int bb_int (pa_cons (pe_cmpR op_gt (pe_op op_modN (pv 3) pe_int) pe_int (nomark _)) pa_nil)))) (pss_cons (ps_set (i := 5) sc__law_number.nd rfl (.inl rfl) (pe_op op_add pe_int (pe_op op_modN (pe_op (op_fdivU hr (by decide) hP hS ⟨_, _, rfl, rfl, rfl, rfl, rfl⟩) (pv 3) pe_int) pe_int))) (pss_cons (ps_if (pt_cmpR op_eq (pe_op op_modN (pv 3) pe_int) pe_int (nomark _)) (pss_cons (ps_set (i := 4) sc__law_number.nd rfl (.inl rfl) (pe_op op_sub (pe_op op_modN (pe_op op_add (pe_op op_mulB (pv 1) (pe_op op_add (pv 2) pe_int)) (pv 3)) (pe_op op_sub (pe_op op_mulB pe_int (pe_op op_pow pe_int pe_int)) pe_int)) (pe_op op_sub (pe_op op_pow pe_int pe_int) pe_int))) (pss_one (ps_set (i := 5) sc__law_number.nd rfl (.inl rfl) (pe_op op_add pe_int (pe_op op_modN (pe_op op_add (pe_op op_mulB (pv 1) (pe_op op_add (pv 2) pe_int)) (pv 3)) (pe_iA ix_list0 (pe_lst (pa_cons pe_int (pa_cons pe_int (pa_cons (pe_op op_sub (pe_op op_pow pe_int pe_int) pe_int) pa_nil)))) (pe_op op_modN (pe_op (op_fdivU hr (by decide) hP hS ⟨_, _, rfl, rfl, rfl, rfl, rfl⟩) (pv 3) pe_int) pe_int))))))) pss_nil) (pss_cons (ps_set (i := 6) sc__law_number.nd rfl (.inl rfl) (pe_kA d__law_divisor hr (pa_cons (pv 4) (pa_cons (pv 5) pa_nil)))) (pss_one (ps_ret (pe_tup (pa_cons (pe_op (op_fdivU hr (by decide) hP hS ⟨_, _, rfl, rfl, rfl, rfl, rfl⟩) (pv 4) (pv 6)) (pa_cons (pe_op (op_fdivU hr (by decide) hP hS ⟨_, _, rfl, rfl, rfl, rfl, rfl⟩) (pv 5) (pv 6)) pa_nil))))))))))), ?_⟩
  refine ⟨_, rfl, _, rfl, c, j, rfl, j0, (by (first | lia | omega)), ?_⟩
  have eN : numF k c j = if 0 < k then .z (((mixF c j).fdiv 4).fmod k * (if decide (0 < (mixF c j).fmod 4) = true then 1 else 0)) else .q (Rat.divInt (topF c j) (botF c j)) := rfl
  have md := mixF_bd c j
  refine ⟨_, rfl, _, _, rfl, rfl, _, rfl, ?_⟩
  refine ite2 (fun ck => ?_) (fun ck => ?_)
  · have k0 : 0 < k := of_decide_eq_true ck
    have kh : k < 99 := by
      rcases hk with h | h
      · (first | lia | omega)
      · exact h.hi
    rw [eN, if_pos k0] at q
    exact ⟨_, rfl, _, _, rfl, rfl, n4, _, rfl, _, _, rfl, rfl, (show k ≠ 0 by (first | lia | omega)), _, rfl, _, _, rfl, rfl, n4, _, _, rfl, rfl, .inr ⟨_, rfl, _, _, rfl, rfl, mulok_left (by have := Int.fmod_nonneg_of_pos ((mixF c j).fdiv 4) k0; (first | lia | omega)) (by have := Int.fmod_lt_of_pos ((mixF c j).fdiv 4) k0; (first | lia | omega)), q _ H (Same.refl H) RN.of_z⟩⟩
  have k0 : ¬ 0 < k := of_decide_eq_false (Bool.eq_false_iff.mpr ck)
  rw [eN, if_neg k0] at q
  dsimp only
  have t0 := Int.fmod_nonneg_of_pos ((mixF c j).fdiv 8) (show (0 : Int) < 13 by decide)
  have t1 := Int.fmod_lt_of_pos ((mixF c j).fdiv 8) (show (0 : Int) < 13 by decide)
  have u0 := Int.fmod_nonneg_of_pos ((mixF c j).fdiv 8) (show (0 : Int) < 3 by decide)
  have u1 := Int.fmod_lt_of_pos ((mixF c j).fdiv 8) (show (0 : Int) < 3 by decide)
  have fin : ∀ H' p, Same H H' → H' p = none → 0 < botF c j → Q (.ref p) (upd H' p (.tup [.int ((topF c j).fdiv ((Int.gcd (topF c j) (botF c j) : Nat) : Int)), .int ((botF c j).fdiv ((Int.gcd (topF c j) (botF c j) : Nat) : Int))])) := fun H' p g hp hb => by
    obtain ⟨e1, e2⟩ := frac_num (t := topF c j) (show botF c j ≠ 0 by (first | lia | omega))
    have e : sg (topF c j) (botF c j) = ((Int.gcd (topF c j) (botF c j) : Nat) : Int) := by unfold sg; rw [if_neg (by (first | lia | omega))]
    rw [e] at e1 e2
    rw [e1, e2]
    exact q _ _ (g.trans (same_new hp _)) (RN.of_q upd_same)
  have bb := bot_bd c j
  have gz : ((Int.gcd (topF c j) (botF c j) : Nat) : Int) ≠ 0 := fun z => by
    have := Int.gcd_eq_zero_iff.mp (show Int.gcd (topF c j) (botF c j) = 0 by (first | lia | omega))
    (first | lia | omega)
  refine ⟨_, rfl, _, _, rfl, rfl, n8, _, _, rfl, rfl, (by show (13 : Int) ≠ 0; decide), _, _, rfl, rfl, _, rfl, _, _, rfl, rfl, n8, _, _, rfl, rfl, .inr ⟨_, rfl, _, _, rfl, rfl, mulok_left (by (first | lia | omega)) (by (first | lia | omega)), ?_⟩⟩
  refine ⟨_, rfl, _, _, rfl, rfl, (by show (104 : Int) ≠ 0; decide), _, _, rfl, rfl, (by show (6 : Int) ≠ 0; decide), _, _, rfl, rfl, ?_⟩
  refine ⟨_, rfl, _, _, rfl, rfl, n8, rfl, _, rfl, ?_⟩
  refine ite2 (fun cc => ?_) (fun cc => ?_)
  · have c1 : (mixF c j).fmod 8 = 1 := V.int.inj (of_decide_eq_true cc)
    have eT : topF c j = (c * (j + 7) + mixF c j).fmod (2 * 10 ^ (20 : Int).toNat - 1) - (10 ^ (20 : Int).toNat - 1) := by unfold topF; rw [if_pos c1]
    have eB : botF c j = 1 + (c * (j + 11) + mixF c j).fmod (pk (((mixF c j).fdiv 8).fmod 3)) := by unfold botF; rw [if_pos c1]
    have pb := pk_bd (((mixF c j).fdiv 8).fmod 3)
    refine ⟨_, rfl, _, rfl, _, _, rfl, rfl, _, _, rfl, rfl, mulok_right (by (first | lia | omega)) (by (first | lia | omega)), _, rfl, _, _, rfl, rfl, _, _, rfl, rfl, cpow10 (by decide) (by decide), _, _, rfl, rfl, mulok_left (by decide) (by decide), _, _, rfl, rfl, _, _, rfl, rfl, (by rw [ten20]; decide), _, _, rfl, rfl, cpow10 (by decide) (by decide), _, _, rfl, rfl, _, _, rfl, rfl, ?_⟩
    refine ⟨_, rfl, _, rfl, _, _, rfl, rfl, _, _, rfl, rfl, mulok_right (by (first | lia | omega)) (by (first | lia | omega)), _, rfl, _, _, rfl, rfl, _, _, rfl, rfl, cpow10 (by decide) (by decide), _, _, rfl, rfl, (by show 3 ≤ sizeLine; decide), fun p hp => ?_⟩
    have g1 := same_new hp (.lst [V.int 1, V.int 9, V.int (10 ^ (20 : Int).toNat - 1)])
    have h1 : upd H p (.lst [V.int 1, V.int 9, V.int (10 ^ (20 : Int).toNat - 1)]) p = some (.lst [V.int 1, V.int 9, V.int (10 ^ (20 : Int).toNat - 1)]) := upd_same
    generalize upd H p (.lst [V.int 1, V.int 9, V.int (10 ^ (20 : Int).toNat - 1)]) = H1 at *
    have at3 : atI [V.int 1, V.int 9, V.int (10 ^ (20 : Int).toNat - 1)] (((mixF c j).fdiv 8).fmod 3) = some (V.int (pk (((mixF c j).fdiv 8).fmod 3))) := by
      rcases (show ((mixF c j).fdiv 8).fmod 3 = 0 ∨ ((mixF c j).fdiv 8).fmod 3 = 1 ∨ ((mixF c j).fdiv 8).fmod 3 = 2 by (first | lia | omega)) with e | e | e <;> rw [e] <;> rfl
    refine ⟨_, rfl, _, _, rfl, rfl, n8, _, _, rfl, rfl, (by show (3 : Int) ≠ 0; decide), p, _, _, V.int (pk (((mixF c j).fdiv 8).fmod 3)), rfl, rfl, SqL.of h1, at3, _, _, rfl, rfl, (show pk (((mixF c j).fdiv 8).fmod 3) ≠ 0 by (first | lia | omega)), _, _, rfl, rfl, ?_⟩
    rw [← eT, ← eB]
    exact ⟨_, rfl, _, rfl, topF c j, botF c j, rfl, _, rfl, _, rfl, _, _, rfl, rfl, gz, _, rfl, _, rfl, _, _, rfl, rfl, gz, (by show 2 ≤ sizeLine; decide), fun p2 hp2 => fin H1 p2 g1 hp2 bb.1⟩
  · have c1 : ¬ (mixF c j).fmod 8 = 1 := fun z => cc (by rw [z]; rfl)
    have eT : topF c j = (((mixF c j).fdiv 8).fmod 13 - 6) * (if decide (0 < (mixF c j).fmod 8) = true then 1 else 0) := by unfold topF; rw [if_neg c1]
    have eB : botF c j = 1 + ((mixF c j).fdiv 104).fmod 6 := by unfold botF; rw [if_neg c1]
    dsimp only
    rw [← eT, ← eB]
    exact ⟨_, rfl, _, rfl, topF c j, botF c j, rfl, _, rfl, _, rfl, _, _, rfl, rfl, gz, _, rfl, _, rfl, _, _, rfl, rfl, gz, (by show 2 ≤ sizeLine; decide), fun p2 hp2 => fin H p2 (Same.refl _) hp2 bb.1⟩
--SPLIT
/-! _law_table -/
noncomputable def rowsF (c : Int) : Int := if (mixF c 4).fmod 16 = 1 then 12 + (mixF c 5).fmod 2 else if (mixF c 4).fmod 16 = 2 then 1 else 1 + (mixF c 2).fmod 3
noncomputable def colsF (c : Int) : Int := if (mixF c 4).fmod 16 = 1 then 1 else if (mixF c 4).fmod 16 = 2 then 12 + (mixF c 5).fmod 2 else 1 + (mixF c 3).fmod 3
theorem rc_bd (c : Int) : (1 ≤ rowsF c ∧ rowsF c ≤ 13) ∧ 1 ≤ colsF c ∧ colsF c ≤ 13 := by
  have a0 := Int.fmod_nonneg_of_pos (mixF c 2) (show (0 : Int) < 3 by decide)
  have a1 := Int.fmod_lt_of_pos (mixF c 2) (show (0 : Int) < 3 by decide)
  have b0 := Int.fmod_nonneg_of_pos (mixF c 3) (show (0 : Int) < 3 by decide)
  have b1 := Int.fmod_lt_of_pos (mixF c 3) (show (0 : Int) < 3 by decide)
  have d0 := Int.fmod_nonneg_of_pos (mixF c 5) (show (0 : Int) < 2 by decide)
  have d1 := Int.fmod_lt_of_pos (mixF c 5) (show (0 : Int) < 2 by decide)
  unfold rowsF colsF
  split
  · (first | lia | omega)
  · split <;> (first | lia | omega)
noncomputable def tabF (k c : Int) : List (List Nb) := (List.range (rowsF c).toNat).map fun (i : Nat) => (List.range (colsF c).toNat).map fun (j : Nat) => numF k c (10 + colsF c * (0 + (i : Int)) + (0 + (j : Int)))
theorem tab_len (k c : Int) : (tabF k c).length = (rowsF c).toNat := by unfold tabF; rw [List.length_map, List.length_range]
theorem tab_row {k c : Int} {r : List Nb} (h : r ∈ tabF k c) : r.length = (colsF c).toNat := by
  unfold tabF at h
  obtain ⟨i, _, rfl⟩ := List.mem_map.mp h
  rw [List.length_map, List.length_range]
theorem tab_num {k c : Int} (hk : KindS k) {r : List Nb} (h : r ∈ tabF k c) {x : Nb} (hx : x ∈ r) : x.ok k ∧ SmN x := by
  unfold tabF at h
  obtain ⟨i, _, rfl⟩ := List.mem_map.mp h
  obtain ⟨j, _, rfl⟩ := List.mem_map.mp hx
  exact numF_ok hk c _
noncomputable def sp_ltab : Sp := fun vs H Q _ => ∃ (k c : Int), vs = [.int k, .int c] ∧ KindS k ∧ ∀ t ras H', Same H H' → TabAt H' (tabF k c) t ras → Q (.ref t) H'
theorem kn_ltab (D : Df K mg "_law_table" ["_law_kind_here", "_law_cell"] s__law_table) (d__law_mix : Kn P w K mg base "_law_mix" 1 ["_law_cell", "_law_j"] sp_mix) (d__law_number : Kn P w K mg base "_law_number" 41 ["_law_kind_here", "_law_cell", "_law_j"] sp_lnum) (m_range : mg "range" = none) : Kn P w K mg base "_law_table" 42 ["_law_kind_here", "_law_cell"] sp_ltab := by
  refine D.kn sc__law_table (fun vs H Q E h => ?_) (fun f cdv A outer s H vs Q E hr h => ?_)
  · obtain ⟨k, c, rfl, _⟩ := h; rfl
  obtain ⟨k, c, rfl, hk, q⟩ := h
  have szl : sizeLine = 16777216 := by decide
  have n3 : (3 : Int) ≠ 0 := by decide
  have n16 : (16 : Int) ≠ 0 := by decide
  have n2 : (2 : Int) ≠ 0 := by decide
  obtain ⟨⟨r1, r13⟩, c1, c13⟩ := rc_bd c
  have lT := tab_len k c
  refine ⟨_, (pss_cons (ps_set (i := 2) sc__law_table.nd rfl (.inl rfl) (pe_op op_add pe_int (pe_op op_modN (pe_kA d__law_mix hr (pa_cons (pv 1) (pa_cons pe_int pa_nil))) pe_int))) (pss_cons (ps_set (i := 3) sc__law_table.nd rfl (.inr rfl) (pe_op op_add pe_int (pe_op op_modN (pe_kA d__law_mix hr (pa_cons (pv 1) (pa_cons pe_int pa_nil))) pe_int))) (pss_cons (ps_if (pt_cmpR op_eq (pe_op op_modN (pe_kA d__law_mix hr (pa_cons (pv 1) (pa_cons pe_int pa_nil))) pe_int) pe_int (nomark _)) (pss_cons (ps_set (i := 2) sc__law_table.nd rfl (.inl rfl) (pe_op op_add pe_int (pe_op op_modN (pe_kA d__law_mix hr (pa_cons (pv 1) (pa_cons pe_int pa_nil))) pe_int))) (pss_one (ps_set (i := 3) sc__law_table.nd rfl (.inr rfl) pe_int))) pss_nil) (pss_cons (ps_if (pt_cmpR op_eq (pe_op op_modN (pe_kA d__law_mix hr (pa_cons (pv 1) (pa_cons pe_int pa_nil))) pe_int) pe_int (nomark _)) (pss_cons (ps_set (i := 3) sc__law_table.nd rfl (.inr rfl) (pe_op op_add pe_int (pe_op op_modN (pe_kA d__law_mix hr (pa_cons (pv 1) (pa_cons pe_int pa_nil))) pe_int))) (pss_one (ps_set (i := 2) sc__law_table.nd rfl (.inl rfl) pe_int))) pss_nil) (pss_one (ps_ret (pe_cN ["_law_columns", "_law_kind_here", "_law_cell"] [3, 0, 1] (pi_range1 rfl m_range (pa_cons (pv 2) pa_nil)) fun _ _ _ _ _ _ => ⟨pts_nil, (pe_cN ["_law_kind_here", "_law_cell", "_law_columns", "_law_i"] [2, 3, 1, 0] (pi_range1 rfl m_range (pa_cons (pv 1) pa_nil)) fun _ _ _ _ _ _ => ⟨pts_nil, (pe_kA d__law_number hr (pa_cons (pv 1) (pa_cons (pv 2) (pa_cons (pe_op op_add (pe_op op_add pe_int (pe_op op_mulB (pv 3) (pv 4))) (pv 0)) pa_nil))))⟩)⟩))))))), ?_⟩
  refine ⟨_, rfl, c, 2, rfl, (by decide), (by decide), _, _, rfl, rfl, n3, _, _, rfl, rfl, ?_⟩
  refine ⟨_, rfl, c, 3, rfl, (by decide), (by decide), _, _, rfl, rfl, n3, _, _, rfl, rfl, ?_⟩
  refine ⟨_, rfl, c, 4, rfl, (by decide), (by decide), _, _, rfl, rfl, n16, rfl, _, rfl, ?_⟩
  refine ite2 (fun d => ?_) (fun d => ?_)
  · have e1 : (mixF c 4).fmod 16 = 1 := V.int.inj (of_decide_eq_true d)
    have eR : rowsF c = 12 + (mixF c 5).fmod 2 := by unfold rowsF; rw [if_pos e1]
    have eC : colsF c = 1 := by unfold colsF; rw [if_pos e1]
    refine ⟨_, rfl, c, 5, rfl, (by decide), (by decide), _, _, rfl, rfl, n2, _, _, rfl, rfl, ?_⟩
    refine ⟨_, rfl, c, 4, rfl, (by decide), (by decide), _, _, rfl, rfl, n16, rfl, _, rfl, ?_⟩
    rw [decide_eq_false (show ¬ V.int ((mixF c 4).fmod 16) = V.int 2 by rw [e1]; decide)]
    refine iteF ?_
    dsimp only
    rw [← eR, show V.int 1 = V.int (colsF c) by rw [eC]]
    refine ⟨_, rfl, rowsF c, rfl, (by (first | lia | omega)), (by (first | lia | omega)), ?_⟩
    refine comp_range (lo := 0) (n := (rowsF c).toNat) (fun i ys H' => ∃ ras, ys = ras.map V.ref ∧ Grow H H' ((tabF k c).take i) ras) ⟨[], rfl, Grow.nil H (Same.refl H)⟩ ?_ ?_ ?_
    · rintro i ys H' hi ⟨ras, rfl, G⟩
      have := pd_len G.rows
      rw [List.length_take, lT] at this
      rw [List.length_map]; (first | lia | omega)
    · rintro i ys H7 hi ⟨ras, rfl, G7⟩
      have eR : (tabF k c)[i]? = some ((List.range (colsF c).toNat).map fun (j : Nat) => numF k c (10 + colsF c * (0 + (i : Int)) + (0 + (j : Int)))) := by unfold tabF; rw [List.getElem?_map, List.getElem?_range hi]; rfl
      first | refine gyes ?_ | refine tyes ?_
      refine ⟨_, rfl, colsF c, rfl, (by (first | lia | omega)), (by (first | lia | omega)), ?_⟩
      refine comp_range (lo := 0) (n := (colsF c).toNat) (fun l ys' H9 => Same H7 H9 ∧ Paired (RN H9) (((List.range (colsF c).toNat).map fun (j : Nat) => numF k c (10 + colsF c * (0 + (i : Int)) + (0 + (j : Int)))).take l) ys') ⟨Same.refl _, .nil⟩ ?_ ?_ ?_
      · rintro l ys' H9 hl' ⟨g9, pr9⟩
        have := pd_len pr9
        rw [List.length_take, List.length_map, List.length_range] at this
        (first | lia | omega)
      · rintro l ys' H9 hl' ⟨g9, pr9⟩
        have ci0 : 0 ≤ colsF c * (0 + (i : Int)) := Int.mul_nonneg (by (first | lia | omega)) (by (first | lia | omega))
        have ci1 : colsF c * (0 + (i : Int)) ≤ 13 * 13 := Int.mul_le_mul (by (first | lia | omega)) (by (first | lia | omega)) (by (first | lia | omega)) (by (first | lia | omega))
        have eX : ((List.range (colsF c).toNat).map fun (j : Nat) => numF k c (10 + colsF c * (0 + (i : Int)) + (0 + (j : Int))))[l]? = some (numF k c (10 + colsF c * (0 + (i : Int)) + (0 + (l : Int)))) := by rw [List.getElem?_map, List.getElem?_range hl']; rfl
        first | refine gyes ?_ | refine tyes ?_
        refine ⟨_, rfl, _, rfl, _, rfl, _, rfl, _, _, rfl, rfl, mulok_left (by (first | lia | omega)) (by (first | lia | omega)), _, _, rfl, rfl, _, rfl, _, _, rfl, rfl, k, c, _, rfl, hk, (by (first | lia | omega)), (by (first | lia | omega)), fun v H10 g10 r10 => nxt hl' ⟨g9.trans g10, ?_⟩⟩
        rw [take_snoc eX]
        exact pd_snoc (pd_rn g10 pr9) r10
      · rintro ys' H9 ⟨g9, pr9⟩ p hp
        rw [List.take_of_length_le (by rw [List.length_map, List.length_range]; exact Nat.le_refl _)] at pr9
        refine nxt hi ⟨ras ++ [p], by rw [List.map_append]; rfl, ?_⟩
        rw [take_snoc eR]
        exact (G7.mono g9).snoc hp pr9
    · rintro ys H' ⟨ras, rfl, G⟩ p hp
      rw [List.take_of_length_le (by rw [lT]; exact Nat.le_refl _)] at G
      exact q p ras _ (G.same.trans (same_new hp (.lst (ras.map V.ref)))) (G.done hp).tab
  have e1 : ¬ (mixF c 4).fmod 16 = 1 := fun z => d (by rw [z]; rfl)
  dsimp only
  refine ⟨_, rfl, c, 4, rfl, (by decide), (by decide), _, _, rfl, rfl, n16, rfl, _, rfl, ?_⟩
  refine ite2 (fun d2 => ?_) (fun d2 => ?_)
  · have e2 : (mixF c 4).fmod 16 = 2 := V.int.inj (of_decide_eq_true d2)
    have eR : rowsF c = 1 := by unfold rowsF; rw [if_neg e1, if_pos e2]
    have eC : colsF c = 12 + (mixF c 5).fmod 2 := by unfold colsF; rw [if_neg e1, if_pos e2]
    refine ⟨_, rfl, c, 5, rfl, (by decide), (by decide), _, _, rfl, rfl, n2, _, _, rfl, rfl, ?_⟩
    rw [← eC, show V.int 1 = V.int (rowsF c) by rw [eR]]
    refine ⟨_, rfl, rowsF c, rfl, (by (first | lia | omega)), (by (first | lia | omega)), ?_⟩
    refine comp_range (lo := 0) (n := (rowsF c).toNat) (fun i ys H' => ∃ ras, ys = ras.map V.ref ∧ Grow H H' ((tabF k c).take i) ras) ⟨[], rfl, Grow.nil H (Same.refl H)⟩ ?_ ?_ ?_
    · rintro i ys H' hi ⟨ras, rfl, G⟩
      have := pd_len G.rows
      rw [List.length_take, lT] at this
      rw [List.length_map]; (first | lia | omega)
    · rintro i ys H7 hi ⟨ras, rfl, G7⟩
      have eR : (tabF k c)[i]? = some ((List.range (colsF c).toNat).map fun (j : Nat) => numF k c (10 + colsF c * (0 + (i : Int)) + (0 + (j : Int)))) := by unfold tabF; rw [List.getElem?_map, List.getElem?_range hi]; rfl
      first | refine gyes ?_ | refine tyes ?_
      refine ⟨_, rfl, colsF c, rfl, (by (first | lia | omega)), (by (first | lia | omega)), ?_⟩
      refine comp_range (lo := 0) (n := (colsF c).toNat) (fun l ys' H9 => Same H7 H9 ∧ Paired (RN H9) (((List.range (colsF c).toNat).map fun (j : Nat) => numF k c (10 + colsF c * (0 + (i : Int)) + (0 + (j : Int)))).take l) ys') ⟨Same.refl _, .nil⟩ ?_ ?_ ?_
      · rintro l ys' H9 hl' ⟨g9, pr9⟩
        have := pd_len pr9
        rw [List.length_take, List.length_map, List.length_range] at this
        (first | lia | omega)
      · rintro l ys' H9 hl' ⟨g9, pr9⟩
        have ci0 : 0 ≤ colsF c * (0 + (i : Int)) := Int.mul_nonneg (by (first | lia | omega)) (by (first | lia | omega))
        have ci1 : colsF c * (0 + (i : Int)) ≤ 13 * 13 := Int.mul_le_mul (by (first | lia | omega)) (by (first | lia | omega)) (by (first | lia | omega)) (by (first | lia | omega))
        have eX : ((List.range (colsF c).toNat).map fun (j : Nat) => numF k c (10 + colsF c * (0 + (i : Int)) + (0 + (j : Int))))[l]? = some (numF k c (10 + colsF c * (0 + (i : Int)) + (0 + (l : Int)))) := by rw [List.getElem?_map, List.getElem?_range hl']; rfl
        first | refine gyes ?_ | refine tyes ?_
        refine ⟨_, rfl, _, rfl, _, rfl, _, rfl, _, _, rfl, rfl, mulok_left (by (first | lia | omega)) (by (first | lia | omega)), _, _, rfl, rfl, _, rfl, _, _, rfl, rfl, k, c, _, rfl, hk, (by (first | lia | omega)), (by (first | lia | omega)), fun v H10 g10 r10 => nxt hl' ⟨g9.trans g10, ?_⟩⟩
        rw [take_snoc eX]
        exact pd_snoc (pd_rn g10 pr9) r10
      · rintro ys' H9 ⟨g9, pr9⟩ p hp
        rw [List.take_of_length_le (by rw [List.length_map, List.length_range]; exact Nat.le_refl _)] at pr9
        refine nxt hi ⟨ras ++ [p], by rw [List.map_append]; rfl, ?_⟩
        rw [take_snoc eR]
        exact (G7.mono g9).snoc hp pr9
    · rintro ys H' ⟨ras, rfl, G⟩ p hp
      rw [List.take_of_length_le (by rw [lT]; exact Nat.le_refl _)] at G
      exact q p ras _ (G.same.trans (same_new hp (.lst (ras.map V.ref)))) (G.done hp).tab
  · have e2 : ¬ (mixF c 4).fmod 16 = 2 := fun z => d2 (by rw [z]; rfl)
    have eR : rowsF c = 1 + (mixF c 2).fmod 3 := by unfold rowsF; rw [if_neg e1, if_neg e2]
    have eC : colsF c = 1 + (mixF c 3).fmod 3 := by unfold colsF; rw [if_neg e1, if_neg e2]
    dsimp only
    rw [← eC, ← eR]
    refine ⟨_, rfl, rowsF c, rfl, (by (first | lia | omega)), (by (first | lia | omega)), ?_⟩
    refine comp_range (lo := 0) (n := (rowsF c).toNat) (fun i ys H' => ∃ ras, ys = ras.map V.ref ∧ Grow H H' ((tabF k c).take i) ras) ⟨[], rfl, Grow.nil H (Same.refl H)⟩ ?_ ?_ ?_
    · rintro i ys H' hi ⟨ras, rfl, G⟩
      have := pd_len G.rows
      rw [List.length_take, lT] at this
      rw [List.length_map]; (first | lia | omega)
    · rintro i ys H7 hi ⟨ras, rfl, G7⟩
      have eR : (tabF k c)[i]? = some ((List.range (colsF c).toNat).map fun (j : Nat) => numF k c (10 + colsF c * (0 + (i : Int)) + (0 + (j : Int)))) := by unfold tabF; rw [List.getElem?_map, List.getElem?_range hi]; rfl
      first | refine gyes ?_ | refine tyes ?_
      refine ⟨_, rfl, colsF c, rfl, (by (first | lia | omega)), (by (first | lia | omega)), ?_⟩
      refine comp_range (lo := 0) (n := (colsF c).toNat) (fun l ys' H9 => Same H7 H9 ∧ Paired (RN H9) (((List.range (colsF c).toNat).map fun (j : Nat) => numF k c (10 + colsF c * (0 + (i : Int)) + (0 + (j : Int)))).take l) ys') ⟨Same.refl _, .nil⟩ ?_ ?_ ?_
      · rintro l ys' H9 hl' ⟨g9, pr9⟩
        have := pd_len pr9
        rw [List.length_take, List.length_map, List.length_range] at this
        (first | lia | omega)
      · rintro l ys' H9 hl' ⟨g9, pr9⟩
        have ci0 : 0 ≤ colsF c * (0 + (i : Int)) := Int.mul_nonneg (by (first | lia | omega)) (by (first | lia | omega))
        have ci1 : colsF c * (0 + (i : Int)) ≤ 13 * 13 := Int.mul_le_mul (by (first | lia | omega)) (by (first | lia | omega)) (by (first | lia | omega)) (by (first | lia | omega))
        have eX : ((List.range (colsF c).toNat).map fun (j : Nat) => numF k c (10 + colsF c * (0 + (i : Int)) + (0 + (j : Int))))[l]? = some (numF k c (10 + colsF c * (0 + (i : Int)) + (0 + (l : Int)))) := by rw [List.getElem?_map, List.getElem?_range hl']; rfl
        first | refine gyes ?_ | refine tyes ?_
        refine ⟨_, rfl, _, rfl, _, rfl, _, rfl, _, _, rfl, rfl, mulok_left (by (first | lia | omega)) (by (first | lia | omega)), _, _, rfl, rfl, _, rfl, _, _, rfl, rfl, k, c, _, rfl, hk, (by (first | lia | omega)), (by (first | lia | omega)), fun v H10 g10 r10 => nxt hl' ⟨g9.trans g10, ?_⟩⟩
        rw [take_snoc eX]
        exact pd_snoc (pd_rn g10 pr9) r10
      · rintro ys' H9 ⟨g9, pr9⟩ p hp
        rw [List.take_of_length_le (by rw [List.length_map, List.length_range]; exact Nat.le_refl _)] at pr9
        refine nxt hi ⟨ras ++ [p], by rw [List.map_append]; rfl, ?_⟩
        rw [take_snoc eR]
        exact (G7.mono g9).snoc hp pr9
    · rintro ys H' ⟨ras, rfl, G⟩ p hp
      rw [List.take_of_length_le (by rw [lT]; exact Nat.le_refl _)] at G
      exact q p ras _ (G.same.trans (same_new hp (.lst (ras.map V.ref)))) (G.done hp).tab
--SPLIT
/-! _law_text -/
noncomputable def sp_ltext : Sp := fun vs H Q _ => ∃ (k : Int) (M : List (List Nb)) (t : Addr) (ras : List Addr), vs = [.int k, .ref t] ∧ TabAt H M t ras ∧ (∀ r ∈ M, r.length ≤ 13 ∧ ∀ x ∈ r, x.ok k ∧ SmN x) ∧ M.length ≤ 13 ∧ ∀ y H', Same H H' → cl y = shT M → Q (.str y) H'
theorem kn_ltext (hP : P.given.tree = none) (hS : base.NoSeer) (D : Df K mg "_law_text" ["_law_kind_here", "_law_table_here"] s__law_text) (m_str : mg "str" = none) : Kn P w K mg base "_law_text" 43 ["_law_kind_here", "_law_table_here"] sp_ltext := by
  refine D.kn sc__law_text (fun vs H Q E h => ?_) (fun f cdv A outer s H vs Q E hr h => ?_)
  · obtain ⟨k, M, t, ras, rfl, _⟩ := h; rfl
  obtain ⟨k, M, t, ras, rfl, hT, ok, lM, q⟩ := h
  have szl : sizeLine = 16777216 := by decide
  have lr := pd_len hT.2
  have c1 : cl (Str.ofString " ") = [32] := by decide +kernel
  have c2 : cl (Str.ofString "; ") = [59, 32] := by decide +kernel
  have z1 : (Str.ofString " ").length ≤ 500 := by decide +kernel
  have z2 : (Str.ofString "; ").length ≤ 500 := by decide +kernel
  have cs : cl (Str.ofString "/") = [47] := by decide +kernel
  have zs1 : (Str.ofString "/").length = 1 := by decide +kernel
  refine ⟨_, (pss_cons (ps_set (i := 2) sc__law_text.nd rfl (.inl rfl) (pe_lst pa_nil)) (pss_cons (ps_for PassesOwn.never rfl (pi_list0 (pv 1)) (pg_name (i := 3) sc__law_text.nd rfl (.inl rfl)) (pss_cons (ps_set (i := 4) sc__law_text.nd rfl (.inl rfl) (pe_lst pa_nil)) (pss_cons (ps_for PassesOwn.never rfl (pi_list0 (pv 3)) (pg_name (i := 5) sc__law_text.nd rfl (.inl rfl)) (pss_cons (ps_set (i := 6) sc__law_text.nd rfl (.inl rfl) (pe_callTy (call_strA hr) rfl m_str bb_str (pa_cons (pv 5) pa_nil))) (pss_cons (ps_if (pt_cmpR op_eq (pv 0) pe_int (nomark _)) (pss_cons (ps_set (i := 6) sc__law_text.nd rfl (.inl rfl) (pe_callTy call_str_int rfl m_str bb_str (pa_cons (pe_iA ix_tup0 (pv 5) pe_int) pa_nil))) (pss_one (ps_if (pt_cmpR op_ne (pe_iA ix_tup0 (pv 5) pe_int) pe_int (nomark _)) (pss_one (ps_set (i := 6) sc__law_text.nd rfl (.inl rfl) (pe_op op_add_str (pe_op op_add_str (pv 6) pe_str) (pe_callTy call_str_int rfl m_str bb_str (pa_cons (pe_iA ix_tup0 (pv 5) pe_int) pa_nil))))) pss_nil))) pss_nil) (pss_one (ps_expr (bm0 (fun _ h => pe_bm PySem.F.plainAttrs_list PySem.F.slot_list_append PySem.F.type_list_append mt_append h (pa_cons (pv 6) pa_nil)) (pv 4))))))) (pss_one (ps_expr (bm0 (fun _ h => pe_bm PySem.F.plainAttrs_list PySem.F.slot_list_append PySem.F.type_list_append mt_append h (pa_cons (bm0 (fun _ h => pe_bm PySem.F.plainAttrs_str PySem.F.slot_str_join PySem.F.type_str_join mt_join0 h (pa_cons (pv 4) pa_nil)) pe_str) pa_nil)) (pv 2))))))) (pss_one (ps_ret (bm0 (fun _ h => pe_bm PySem.F.plainAttrs_str PySem.F.slot_str_join PySem.F.type_str_join mt_join0 h (pa_cons (pv 2) pa_nil)) pe_str))))), ?_⟩
  refine ⟨(by show 0 ≤ sizeLine; decide), fun pf hpf => ?_⟩
  have hf0 : upd H pf (.lst []) pf = some (.lst (([] : List Str).map V.str)) := upd_same
  have g0 := same_new hpf (.lst [])
  generalize upd H pf (.lst []) = H0 at *
  refine ⟨_, rfl, t, rfl, ⟨_, SqL.of (g0 _ _ hT.1)⟩, ?_⟩
  refine for_list (xs := ras.map V.ref) (fun i σ H' => ∃ o3 o4 o5 o6 zs, σ = [some (.int k), some (.ref t), some (.ref pf), o3, o4, o5, o6] ∧ Same H H' ∧ H' pf = some (.lst (zs.map V.str)) ∧ zs.map cl = (M.map shRow).take i) ⟨_, _, _, _, [], rfl, g0, hf0, rfl⟩ ?_ ?_ ?_
  · rintro i σ H' _ ⟨o3, o4, o5, o6, zs, rfl, g, hf, e⟩
    exact SqL.of (g _ _ hT.1)
  · rintro i v σ H' hv ⟨o3, o4, o5, o6, zs, rfl, g, hf, e⟩
    obtain ⟨row, a, hrow, ha, rfl, hR⟩ := (hT.mono g).row hv
    obtain ⟨us, hu, pu, lu⟩ := hR.len
    obtain ⟨l13, okr⟩ := ok row (List.mem_of_getElem? hrow)
    have lz : zs.length ≤ 13 := by
      have := congrArg List.length e
      rw [List.length_map, List.length_take, List.length_map] at this; (first | lia | omega)
    refine ⟨(by show 0 ≤ sizeLine; decide), fun pw hpw => ?_⟩
    have hw0 : upd H' pw (.lst []) pw = some (.lst (([] : List Str).map V.str)) := upd_same
    have g1 := same_new hpw (.lst [])
    generalize upd H' pw (.lst []) = H1 at *
    refine ⟨_, rfl, a, rfl, ⟨_, SqL.of (g1 _ _ hu)⟩, ?_⟩
    refine for_list (xs := us) (fun j σ H2 => ∃ o5 o6 ws, σ = [some (.int k), some (.ref t), some (.ref pf), some (.ref a), some (.ref pw), o5, o6] ∧ Same H' H2 ∧ H2 pw = some (.lst (ws.map V.str)) ∧ ws.map cl = (row.map shN).take j) ⟨_, _, [], rfl, g1, hw0, rfl⟩ ?_ ?_ ?_
    · rintro j σ H2 _ ⟨o5, o6, ws, rfl, g2, hw, e2⟩
      exact SqL.of (g2 _ _ hu)
    · rintro j x σ H2 hx ⟨o5, o6, ws, rfl, g2, hw, e2⟩
      obtain ⟨x', hx', rx⟩ := pd_right pu hx
      obtain ⟨o, sm⟩ := okr x' (List.mem_of_getElem? hx')
      have rx2 := rx.mono g2
      have lw : ws.length ≤ 13 := by
        have := congrArg List.length e2
        rw [List.length_map, List.length_take, List.length_map] at this; (first | lia | omega)
      have ex : (row.map shN)[j]? = some (shN x') := by rw [List.getElem?_map, hx']; rfl
      have fin : ∀ y, cl y = shN x' → ∃ (o5 o6 : Option V) (ws' : List Str), ([some (.int k), some (.ref t), some (.ref pf), some (.ref a), some (.ref pw), some x, some (.str y)] : L2.St) = [some (.int k), some (.ref t), some (.ref pf), some (.ref a), some (.ref pw), o5, o6] ∧ Same H' (upd H2 pw (.lst (ws.map V.str ++ [.str y]))) ∧ upd H2 pw (.lst (ws.map V.str ++ [.str y])) pw = some (.lst (ws'.map V.str)) ∧ ws'.map cl = (row.map shN).take (j + 1) := fun y hy => ⟨_, _, ws ++ [y], rfl, same_upd g2 hpw, by rw [upd_same, List.map_append]; rfl, by rw [List.map_append, e2, take_snoc ex, ← hy]; rfl⟩
      refine ⟨_, rfl, x', x, rfl, rx2, sm, fun i e => ?_, fun r e s => ?_⟩
      · subst e
        have k0 : k ≠ 0 := o.1
        refine ⟨_, rfl, rfl, _, rfl, ?_⟩
        rw [decide_eq_false (fun z : V.int k = V.int 0 => k0 (V.int.inj z))]
        refine iteF ?_
        refine ⟨_, rfl, .inl ⟨rfl, _, SqL.of hw⟩, _, rfl, pw, _, _, rfl, rfl, hw, (by rw [List.length_map]; (first | lia | omega)), fin _ (sh_str i)⟩
      · subst e
        have k0 : k = 0 := o
        subst k0
        obtain ⟨p, hv, hp⟩ := rx2.q
        subst hv
        refine ⟨_, rfl, rfl, _, rfl, iteT ?_⟩
        refine ⟨_, rfl, p, _, _, .int r.num, rfl, rfl, SqT.of hp, rfl, r.num, rfl, log_lt (p21_64 sm.1), ?_⟩
        have l1 := len_ofStr r.num sm.1
        have l2 := len_ofStr (r.den : Int) sm.2
        refine ⟨_, rfl, p, _, _, .int (r.den : Int), rfl, rfl, SqT.of hp, rfl, rfl, _, rfl, ?_⟩
        refine ite2 (fun c => ?_) (fun c => ?_)
        · have d1 : ¬ r.den = 1 := fun z => by
            have c' : (!decide (V.int (r.den : Int) = V.int 1)) = true := c
            rw [z] at c'; exact absurd c' (by decide)
          refine ⟨_, rfl, _, _, rfl, rfl, (by rw [zs1]; (first | lia | omega)), ?_⟩
          refine ⟨_, rfl, p, _, _, .int (r.den : Int), rfl, rfl, SqT.of hp, rfl, (r.den : Int), rfl, log_lt (p21_64 (show (r.den : Int).natAbs < 10 ^ 21 from sm.2)), ?_⟩
          refine ⟨_, _, rfl, rfl, (by rw [← cl_len, cl_app, List.length_append, cl_len, cl_len, zs1]; (first | lia | omega)), ?_⟩
          refine ⟨_, rfl, .inl ⟨rfl, _, SqL.of hw⟩, _, rfl, pw, _, _, rfl, rfl, hw, (by rw [List.length_map]; (first | lia | omega)), fin _ ?_⟩
          rw [cl_app, cl_app, cs, show cl (Str.ofString (toString r.num)) = shI r.num from sh_str _, show cl (Str.ofString (toString (r.den : Int))) = shI (r.den : Int) from sh_str _, show shI (r.den : Int) = dec r.den from shI_abs (r.den : Int), List.append_assoc]
          show _ = shI r.num ++ if r.den = 1 then [] else 47 :: dec r.den
          rw [if_neg d1]; rfl
        · have d1 : r.den = 1 := by
            refine Classical.byContradiction fun n => c ?_
            show (!decide (V.int (r.den : Int) = V.int 1)) = true
            rw [decide_eq_false (fun z => n (by have := V.int.inj z; (first | lia | omega)))]; rfl
          refine ⟨_, rfl, .inl ⟨rfl, _, SqL.of hw⟩, _, rfl, pw, _, _, rfl, rfl, hw, (by rw [List.length_map]; (first | lia | omega)), fin _ ?_⟩
          rw [show cl (Str.ofString (toString r.num)) = shI r.num from sh_str _]
          show _ = shI r.num ++ if r.den = 1 then [] else 47 :: dec r.den
          rw [if_pos d1, List.append_nil]
    · rintro σ H2 ⟨o5, o6, ws, rfl, g2, hw, e2⟩
      rw [List.take_of_length_le (by rw [List.length_map]; (first | lia | omega))] at e2
      have lw : ws.length = row.length := by have := congrArg List.length e2; rwa [List.length_map, List.length_map] at this
      have hf2 := g2 _ _ hf
      refine ⟨_, rfl, .inl ⟨rfl, _, SqL.of hf2⟩, rfl, _, rfl, _, pw, ws, rfl, rfl, hw, join_ok (by (first | lia | omega)) (fun x hx => ?_) z1, pf, _, _, rfl, rfl, hf2, (by rw [List.length_map]; (first | lia | omega)), _, _, _, _, zs ++ [Txt.join (Str.ofString " ") ws], rfl, same_upd (g.trans g2) hpf, by rw [upd_same, List.map_append]; rfl, ?_⟩
      · have m : cl x ∈ row.map shN := by rw [← e2]; exact List.mem_map.mpr ⟨x, hx, rfl⟩
        obtain ⟨y, hy, ey⟩ := List.mem_map.mp m
        rw [← cl_len, ← ey]
        exact Nat.le_trans (shN_len (okr y hy).2) (by decide)
      · have ex : (M.map shRow)[i]? = some (shRow row) := by rw [List.getElem?_map, hrow]; rfl
        rw [List.map_append, e, take_snoc ex]
        show _ ++ [cl (Txt.join (Str.ofString " ") ws)] = _
        rw [cl_join, c1, e2]; rfl
  · rintro σ H' ⟨o3, o4, o5, o6, zs, rfl, g, hf, e⟩
    rw [List.take_of_length_le (by rw [List.length_map, List.length_map]; (first | lia | omega))] at e
    have lz : zs.length = M.length := by have := congrArg List.length e; rwa [List.length_map, List.length_map] at this
    refine ⟨rfl, _, rfl, _, pf, zs, rfl, rfl, hf, join_ok (by (first | lia | omega)) (fun x hx => ?_) z2, q _ _ g ?_⟩
    · have m : cl x ∈ M.map shRow := by rw [← e]; exact List.mem_map.mpr ⟨x, hx, rfl⟩
      obtain ⟨y, hy, ey⟩ := List.mem_map.mp m
      rw [← cl_len, ← ey]
      exact Nat.le_trans (shRow_len (fun x hx => ((ok y hy).2 x hx).2) (ok y hy).1) (by decide)
    · rw [cl_join, c2, e]; rfl
--SPLIT
/-! _law_figures -/
noncomputable def sp_lfig : Sp := fun vs H Q _ => ∃ x : Str, vs = [.str x] ∧ x.length ≤ 100000 ∧ (∀ n, figW (cl x) = some n → Q (.int (n : Int)) H) ∧ (figW (cl x) = none → Q .non H)
theorem kn_lfig (hP : P.given.tree = none) (hS : base.NoSeer) (D : Df K mg "_law_figures" ["_law_word"] s__law_figures) (m_len : mg "len" = none) (m_int : mg "int" = none) : Kn P w K mg base "_law_figures" 41 ["_law_word"] sp_lfig := by
  refine D.kn sc__law_figures (fun vs H Q E h => ?_) (fun f cdv A outer s H vs Q E hr h => ?_)
  · obtain ⟨x, rfl, _⟩ := h; rfl
  obtain ⟨x, rfl, lx, q1, q2⟩ := h
  have szl : sizeLine = 16777216 := by decide
  have cx := cl_len x
  have ft : figW (cl x) = if (cl x ≠ [] ∧ (cl x).length ≤ 20 ∧ ¬ ((cl x).head? = some 48 ∧ 1 < (cl x).length)) ∧ allD (cl x) = true then some (digitsVal (cl x)) else none := rfl
  refine ⟨_, (pss_cons (ps_if (PW.pt (pw_or (pt_cmpR op_eq (pv 0) pe_str (nomark _)) (pw_or (pt_cmpR op_gt (pe_callB call_len_str rfl m_len bb_len (pa_cons (pv 0) pa_nil)) pe_int (nomark _)) (pw_or1 (PW.pt (pw_and (pt_cmpR op_eq (pe_ix ix_str (pv 0) pe_int (fun _ _ => rfl)) pe_str (nomark _)) (pw_and1 (pt_cmpR op_gt (pe_callB call_len_str rfl m_len bb_len (pa_cons (pv 0) pa_nil)) pe_int (nomark _))))))))) (pss_one (ps_ret pe_non)) pss_nil) (pss_cons (ps_for PassesOwn.never rfl (pi_str (pv 0)) (pg_name (i := 1) sc__law_figures.nd rfl (.inl rfl)) (pss_one (ps_if (pt_cmpR op_notIn_str (pv 1) pe_str (by with_unfolding_all rfl)) (pss_one (ps_ret pe_non)) pss_nil))) (pss_one (ps_ret (pe_callTy call_int_text rfl m_int bb_int (pa_cons (pv 0) pa_nil)))))), ?_⟩
  refine ⟨_, rfl, rfl, _, rfl, ?_⟩
  have e0 : cl (Str.ofString "") = [] := by decide +kernel
  by_cases n0 : x = Str.ofString ""
  · rw [decide_eq_true (show V.str x = V.str (Str.ofString "") by rw [n0])]
    refine iteT (q2 ?_)
    rw [ft, if_neg fun z => z.1.1 (by rw [n0]; exact e0)]
  rw [decide_eq_false (fun z : V.str x = V.str (Str.ofString "") => n0 (V.str.inj z))]
  refine iteF ?_
  have ne : cl x ≠ [] := fun z => n0 (cl_inj (z.trans e0.symm))
  refine ⟨_, rfl, _, rfl, (by (first | lia | omega)), _, _, rfl, rfl, _, rfl, ?_⟩
  by_cases c20 : (20 : Int) < (x.length : Int)
  · rw [decide_eq_true c20]
    refine iteT (q2 ?_)
    rw [ft, if_neg fun z => by have := z.1.2.1; (first | lia | omega)]
  rw [decide_eq_false c20]
  refine iteF ?_
  obtain ⟨c, r, ec⟩ := List.exists_cons_of_ne_nil ne
  have lp : 0 < x.length := by rw [← cx, ec]; exact Nat.succ_pos _
  have es : Str.ofString "0" = ⟨#[48]⟩ := by decide +kernel
  refine ⟨_, rfl, _, _, c, rfl, rfl, (by (first | lia | omega)), atI_nat (j := 0) (show (cl x)[0]? = some c by rw [ec]; rfl), rfl, _, rfl, ?_⟩
  rw [es]
  have hd : (cl x).head? = some c := by rw [ec]; rfl
  by_cases c48 : c = 48
  · rw [decide_eq_true (show V.str ⟨#[c]⟩ = V.str ⟨#[48]⟩ by rw [c48])]
    refine iteT ⟨_, rfl, _, rfl, (by (first | lia | omega)), _, _, rfl, rfl, _, rfl, ?_⟩
    by_cases c1 : (1 : Int) < (x.length : Int)
    · rw [decide_eq_true c1]
      refine iteT (q2 ?_)
      rw [ft, if_neg fun z => z.1.2.2 ⟨by rw [hd, c48], by (first | lia | omega)⟩]
    rw [decide_eq_false c1]
    refine iteF ?_
    have nz : ¬ ((cl x).head? = some 48 ∧ 1 < (cl x).length) := fun z => by have := z.2; (first | lia | omega)
    refine ⟨_, rfl, _, rfl, ?_⟩
    refine for_str (fun i σ H' => ∃ o, σ = [some (.str x), o] ∧ H' = H ∧ allD ((cl x).take i) = true) ⟨_, rfl, rfl, rfl⟩ ?_ ?_
    · rintro i d σ H' hd ⟨o, rfl, rfl, ad⟩
      have hd' : (cl x)[i]? = some d := by rw [← hd]; exact Array.getElem?_toList
      refine ⟨_, rfl, _, _, rfl, rfl, _, rfl, ?_⟩
      rw [in_figures]
      by_cases dg : 48 ≤ d ∧ d ≤ 57
      · rw [decide_eq_true dg]
        refine iteF ⟨_, rfl, rfl, ?_⟩
        rw [take_snoc hd']
        unfold allD at ad ⊢
        rw [List.all_append, ad]
        show (true && (decide (48 ≤ d ∧ d ≤ 57) && true)) = true
        rw [decide_eq_true dg]; rfl
      · rw [decide_eq_false dg]
        refine iteT (q2 ?_)
        rw [ft, if_neg fun z => dg ((allD_iff _).mp z.2 d (List.mem_of_getElem? hd'))]
    · rintro σ H' ⟨o, rfl, rfl, ad⟩
      rw [List.take_of_length_le (by show (cl x).length ≤ _; simp)] at ad
      exact ⟨_, rfl, _, _, rfl, intText_digits ((allD_iff _).mp ad) ne (by (first | lia | omega)), (by (first | lia | omega)), q1 _ (by rw [ft, if_pos ⟨⟨ne, by (first | lia | omega), nz⟩, ad⟩])⟩
  · rw [decide_eq_false (show ¬ V.str ⟨#[c]⟩ = V.str ⟨#[48]⟩ from fun z => c48 (by have := V.str.inj z; simpa using this))]
    refine iteF (iteF ?_)
    have nz : ¬ ((cl x).head? = some 48 ∧ 1 < (cl x).length) := fun z => c48 (by have := z.1; rw [hd] at this; exact Option.some.inj this)
    refine ⟨_, rfl, _, rfl, ?_⟩
    refine for_str (fun i σ H' => ∃ o, σ = [some (.str x), o] ∧ H' = H ∧ allD ((cl x).take i) = true) ⟨_, rfl, rfl, rfl⟩ ?_ ?_
    · rintro i d σ H' hd ⟨o, rfl, rfl, ad⟩
      have hd' : (cl x)[i]? = some d := by rw [← hd]; exact Array.getElem?_toList
      refine ⟨_, rfl, _, _, rfl, rfl, _, rfl, ?_⟩
      rw [in_figures]
      by_cases dg : 48 ≤ d ∧ d ≤ 57
      · rw [decide_eq_true dg]
        refine iteF ⟨_, rfl, rfl, ?_⟩
        rw [take_snoc hd']
        unfold allD at ad ⊢
        rw [List.all_append, ad]
        show (true && (decide (48 ≤ d ∧ d ≤ 57) && true)) = true
        rw [decide_eq_true dg]; rfl
      · rw [decide_eq_false dg]
        refine iteT (q2 ?_)
        rw [ft, if_neg fun z => dg ((allD_iff _).mp z.2 d (List.mem_of_getElem? hd'))]
    · rintro σ H' ⟨o, rfl, rfl, ad⟩
      rw [List.take_of_length_le (by show (cl x).length ≤ _; simp)] at ad
      exact ⟨_, rfl, _, _, rfl, intText_digits ((allD_iff _).mp ad) ne (by (first | lia | omega)), (by (first | lia | omega)), q1 _ (by rw [ft, if_pos ⟨⟨ne, by (first | lia | omega), nz⟩, ad⟩])⟩
--SPLIT
/-! _law_odd -/
noncomputable def odd17 : List V := [.str (Str.ofString ""), .str (Str.ofString " "), .str (Str.ofString ";"), .str (Str.ofString "; "), .str (Str.ofString "1;"), .str (Str.ofString "1; "), .str (Str.ofString "1;1"), .str (Str.ofString "1 ;1"), .str (Str.ofString "1 0; 1"), .str (Str.ofString " 1"), .str (Str.ofString "1 "), .str (Str.ofString "1  0"), .str (Str.ofString "01"), .str (Str.ofString "-0"), .str (Str.ofString "-"), .str (Str.ofString "--1"), .str (Str.ofString "+1")]
noncomputable def odd15 : List V := [.str (Str.ofString "1_0"), .str (Str.ofString "1.0"), .str (Str.ofString "1/1"), .str (Str.ofString "2/4"), .str (Str.ofString "0/3"), .str (Str.ofString "1/0"), .str (Str.ofString "1/-2"), .str (Str.ofString "1/2/3"), .str (Str.ofString "1/"), .str (Str.ofString "/2"), .str (Str.ofString "1/02"), .str (Str.ofString "97"), .str (Str.ofString "1\n"), .non, .int 7]
noncomputable def tvB : V → Bool
  | .str x => decide (x.length ≤ 50000)
  | .non => true
  | .int _ => true
  | _ => false
theorem tvB_ok {v : V} (h : tvB v = true) : TxV v := by
  cases v with
  | str x => exact .inl ⟨x, rfl, of_decide_eq_true h⟩
  | non => exact .inr (.inl rfl)
  | int i => exact .inr (.inr ⟨i, rfl⟩)
  | _ => exact absurd h (by intro z; cases z)
theorem odd_ok : (odd17 ++ odd15).all tvB = true := by decide +kernel
noncomputable def sp_lodd : Sp := fun vs H Q _ => ∃ c : Int, vs = [.int c] ∧ ∀ v H', Same H H' → TxV v → Q v H'
theorem kn_lodd (D : Df K mg "_law_odd" ["_law_cell"] s__law_odd) (d__law_mix : Kn P w K mg base "_law_mix" 1 ["_law_cell", "_law_j"] sp_mix) : Kn P w K mg base "_law_odd" 41 ["_law_cell"] sp_lodd := by
  refine D.kn sc__law_odd (fun vs H Q E h => ?_) (fun f cdv A outer s H vs Q E hr h => ?_)
  · obtain ⟨c, rfl, _⟩ := h; rfl
  obtain ⟨c, rfl, q⟩ := h
  obtain ⟨es1, es2, pa, pb, pc, pd, pe, pf, pg, ph, hes17, hes15, e0⟩ : ∃ (es1 es2 : List Expr) (pa pb pc pd pe pf pg ph : Pos), ConEs es1 odd17 ∧ ConEs es2 odd15 ∧ defBody s__law_odd = Stmt.Assign (targets := [Expr.Name "_law_some" pa]) (value := Expr.List es1 pb) (pos := pc) :: Stmt.Assign (targets := [Expr.Name "_law_some" pd]) (value := Expr.BinOp (Expr.Name "_law_some" pe) .Add (Expr.List es2 pf) pg) (pos := ph) :: (defBody s__law_odd).tail.tail := ⟨_, _, _, _, _, _, _, _, _, _, by unfold odd17; repeat constructor, by unfold odd15; repeat constructor, rfl⟩
  rw [e0]
  refine ⟨_, (pss_cons (ps_set (i := 1) sc__law_odd.nd rfl (.inl rfl) (pe_lst (pa_conV _ hes17))) (pss_cons (ps_set (i := 1) sc__law_odd.nd rfl (.inl rfl) (pe_op op_cat (pv 1) (pe_lst (pa_conV _ hes15)))) (pss_one (ps_ret (pe_iA ix_list0 (pv 1) (pe_op op_modN (pe_kA d__law_mix hr (pa_cons (pv 0) (pa_cons pe_int pa_nil))) pe_int)))))), ?_⟩
  have szl : sizeLine = 16777216 := by decide
  refine ⟨(by show 17 ≤ sizeLine; decide), fun p hp => ?_⟩
  have h1 : upd H p (.lst odd17) p = some (.lst odd17) := upd_same
  have g1 := same_new hp (.lst odd17)
  generalize upd H p (.lst odd17) = H1 at *
  refine ⟨_, rfl, (by show 15 ≤ sizeLine; decide), fun p2 hp2 => ?_⟩
  have h2 : upd H1 p2 (.lst odd15) p2 = some (.lst odd15) := upd_same
  have g2 := same_new hp2 (.lst odd15)
  generalize upd H1 p2 (.lst odd15) = H2 at *
  refine ⟨p, p2, odd17, odd15, rfl, rfl, g2 _ _ h1, h2, (by show 32 ≤ sizeLine; decide), fun p3 hp3 => ?_⟩
  have g3 := same_new hp3 (.lst (odd17 ++ odd15))
  have f0 := Int.fmod_nonneg_of_pos (mixF c 60) (show (0 : Int) < 32 by decide)
  have f1 := Int.fmod_lt_of_pos (mixF c 60) (show (0 : Int) < 32 by decide)
  have lt : ((mixF c 60).fmod 32).toNat < (odd17 ++ odd15).length := show _ < 32 by (first | lia | omega)
  have ei : (((mixF c 60).fmod 32).toNat : Int) = (mixF c 60).fmod 32 := by (first | lia | omega)
  have at' := atI_nat (List.getElem?_eq_getElem lt)
  rw [ei] at at'
  exact ⟨_, rfl, _, rfl, c, 60, rfl, (by decide), (by decide), _, _, rfl, rfl, (by show (32 : Int) ≠ 0; decide), p3, _, _, _, rfl, rfl, SqL.of upd_same, at', q _ _ ((g1.trans g2).trans g3) (tvB_ok (List.all_eq_true.mp odd_ok _ (List.getElem_mem lt)))⟩
/-! _law_spoiled -/
theorem at_str (z : Str) {i : Int} (h0 : 0 ≤ i) (h1 : i < (z.length : Int)) : ∃ c, atI (cl z) i = some c := by
  have lt : i.toNat < (cl z).length := by rw [cl_len]; (first | lia | omega)
  have := atI_nat (List.getElem?_eq_getElem lt)
  rw [show (i.toNat : Int) = i by (first | lia | omega)] at this
  exact ⟨_, this⟩
noncomputable def sp_lspo : Sp := fun vs H Q _ => ∃ (x : Str) (c : Int), vs = [.str x, .int c] ∧ x.length ≤ 10000 ∧ ∀ v H', Same H H' → TxV v → Q v H'
theorem kn_lspo (D : Df K mg "_law_spoiled" ["_law_text_here", "_law_cell"] s__law_spoiled) (d__law_mix : Kn P w K mg base "_law_mix" 1 ["_law_cell", "_law_j"] sp_mix) (d__law_odd : Kn P w K mg base "_law_odd" 41 ["_law_cell"] sp_lodd) (m_len : mg "len" = none) : Kn P w K mg base "_law_spoiled" 42 ["_law_text_here", "_law_cell"] sp_lspo := by
  refine D.kn sc__law_spoiled (fun vs H Q E h => ?_) (fun f cdv A outer s H vs Q E hr h => ?_)
  · obtain ⟨x, c, rfl, _⟩ := h; rfl
  obtain ⟨x, c, rfl, lx, q⟩ := h
  have szl : sizeLine = 16777216 := by decide
  have tv : ∀ y : Str, y.length ≤ 50000 → Q (.str y) H := fun y hy => q _ H (Same.refl H) (.inl ⟨y, rfl, hy⟩)
  have tb : ∀ lo hi, (Txt.slice x lo hi).length ≤ 10000 := fun lo hi => Nat.le_trans (Txt.slice_le x _ _) lx
  have ll : ∀ a b : Str, (a ++ b).length = a.length + b.length := fun a b => by rw [← cl_len, cl_app, List.length_append, cl_len, cl_len]
  refine ⟨_, (pss_cons (ps_set (i := 2) sc__law_spoiled.nd rfl (.inl rfl) pe_str) (pss_cons (ps_set (i := 3) sc__law_spoiled.nd rfl (.inl rfl) (pe_op op_modN (pe_kA d__law_mix hr (pa_cons (pv 1) (pa_cons pe_int pa_nil))) pe_int)) (pss_cons (ps_set (i := 4) sc__law_spoiled.nd rfl (.inl rfl) (pe_op op_modN (pe_kA d__law_mix hr (pa_cons (pv 1) (pa_cons pe_int pa_nil))) (pe_op op_add (pe_callB call_len_str rfl m_len bb_len (pa_cons (pv 0) pa_nil)) pe_int))) (pss_cons (ps_set (i := 5) sc__law_spoiled.nd rfl (.inl rfl) (pe_ix ix_str (pv 2) (pe_op op_modN (pe_kA d__law_mix hr (pa_cons (pv 1) (pa_cons pe_int pa_nil))) (pe_callB call_len_str rfl m_len bb_len (pa_cons (pv 2) pa_nil))) (fun _ _ => rfl))) (pss_cons (ps_if (pt_cmpR op_eq (pv 3) pe_int (nomark _)) (pss_one (ps_ret (pe_op op_add_str (pe_op op_add_str (pe_slice sl_str (pv 0) po_none (po_some (pv 4))) (pv 5)) (pe_slice sl_str (pv 0) (po_some (pv 4)) po_none)))) pss_nil) (pss_cons (ps_if (pt_cmpR op_eq (pv 3) pe_int (nomark _)) (pss_one (ps_ret (pe_op op_add_str (pe_slice sl_str (pv 0) po_none (po_some (pv 4))) (pe_slice sl_str (pv 0) (po_some (pe_op op_add (pv 4) pe_int)) po_none)))) pss_nil) (pss_cons (ps_if (pt_cmpR op_lt (pv 3) pe_int (nomark _)) (pss_one (ps_ret (pe_op op_add_str (pe_op op_add_str (pe_slice sl_str (pv 0) po_none (po_some (pv 4))) (pv 5)) (pe_slice sl_str (pv 0) (po_some (pe_op op_add (pv 4) pe_int)) po_none)))) pss_nil) (pss_cons (ps_if (pt_cmpR op_eq (pv 3) pe_int (nomark _)) (pss_one (ps_ret (pe_kA d__law_odd hr (pa_cons (pv 1) pa_nil)))) pss_nil) (pss_one (ps_ret (pv 0))))))))))), ?_⟩
  have f0 := Int.fmod_nonneg_of_pos (mixF c 62) (show (0 : Int) < (x.length : Int) + 1 by (first | lia | omega))
  have f1 := Int.fmod_lt_of_pos (mixF c 62) (show (0 : Int) < (x.length : Int) + 1 by (first | lia | omega))
  refine ⟨_, rfl, c, 61, rfl, (by decide), (by decide), _, _, rfl, rfl, (by show (8 : Int) ≠ 0; decide), ?_⟩
  refine ⟨_, rfl, c, 62, rfl, (by decide), (by decide), _, rfl, _, rfl, (by (first | lia | omega)), _, _, rfl, rfl, _, _, rfl, rfl, (by (first | lia | omega)), ?_⟩
  have l22 : (Str.ofString "   ;;//--0123456789x\n\t").length = 22 := by decide +kernel
  have m0 := Int.fmod_nonneg_of_pos (mixF c 63) (show (0 : Int) < (((Str.ofString "   ;;//--0123456789x\n\t").length : Nat) : Int) by rw [l22]; decide)
  have m1 := Int.fmod_lt_of_pos (mixF c 63) (show (0 : Int) < (((Str.ofString "   ;;//--0123456789x\n\t").length : Nat) : Int) by rw [l22]; decide)
  obtain ⟨d, hd⟩ := at_str _ m0 m1
  refine ⟨_, rfl, _, rfl, c, 63, rfl, (by decide), (by decide), _, rfl, _, rfl, (by rw [l22]; decide), _, _, rfl, rfl, (by rw [l22]; decide), _, _, d, rfl, rfl, (by rw [l22]; decide), hd, ?_⟩
  have l1 : (⟨#[d]⟩ : Str).length = 1 := rfl
  refine ⟨_, rfl, rfl, _, rfl, ite2 (fun _ => ?_) (fun _ => ?_)⟩
  · refine ⟨_, rfl, _, rfl, _, rfl, _, rfl, (by (first | lia | omega)), _, rfl, _, _, rfl, rfl, ?_, _, rfl, _, rfl, _, rfl, _, rfl, (by (first | lia | omega)), _, _, rfl, rfl, ?_, tv _ ?_⟩
    · have := tb none (some ((mixF c 62).fmod ((x.length : Int) + 1))); (first | lia | omega)
    · have h1 := tb none (some ((mixF c 62).fmod ((x.length : Int) + 1)))
      have h2 := tb (some ((mixF c 62).fmod ((x.length : Int) + 1))) none
      rw [ll]; (first | lia | omega)
    · have h1 := tb none (some ((mixF c 62).fmod ((x.length : Int) + 1)))
      have h2 := tb (some ((mixF c 62).fmod ((x.length : Int) + 1))) none
      rw [ll, ll]; (first | lia | omega)
  refine ⟨_, rfl, rfl, _, rfl, ite2 (fun _ => ?_) (fun _ => ?_)⟩
  · refine ⟨_, rfl, _, rfl, _, rfl, _, rfl, (by (first | lia | omega)), _, rfl, _, rfl, _, _, rfl, rfl, _, rfl, _, rfl, (by (first | lia | omega)), _, _, rfl, rfl, ?_, tv _ ?_⟩
    · have h1 := tb none (some ((mixF c 62).fmod ((x.length : Int) + 1)))
      have h2 := tb (some ((mixF c 62).fmod ((x.length : Int) + 1) + 1)) none
      (first | lia | omega)
    · have h1 := tb none (some ((mixF c 62).fmod ((x.length : Int) + 1)))
      have h2 := tb (some ((mixF c 62).fmod ((x.length : Int) + 1) + 1)) none
      rw [ll]; (first | lia | omega)
  refine ⟨_, rfl, _, _, rfl, rfl, _, rfl, ite2 (fun _ => ?_) (fun _ => ?_)⟩
  · refine ⟨_, rfl, _, rfl, _, rfl, _, rfl, (by (first | lia | omega)), _, rfl, _, _, rfl, rfl, ?_, _, rfl, _, rfl, _, _, rfl, rfl, _, rfl, _, rfl, (by (first | lia | omega)), _, _, rfl, rfl, ?_, tv _ ?_⟩
    · have := tb none (some ((mixF c 62).fmod ((x.length : Int) + 1))); (first | lia | omega)
    · have h1 := tb none (some ((mixF c 62).fmod ((x.length : Int) + 1)))
      have h2 := tb (some ((mixF c 62).fmod ((x.length : Int) + 1) + 1)) none
      rw [ll]; (first | lia | omega)
    · have h1 := tb none (some ((mixF c 62).fmod ((x.length : Int) + 1)))
      have h2 := tb (some ((mixF c 62).fmod ((x.length : Int) + 1) + 1)) none
      rw [ll, ll]; (first | lia | omega)
  refine ⟨_, rfl, rfl, _, rfl, ite2 (fun _ => ?_) (fun _ => ?_)⟩
  · exact ⟨_, rfl, c, rfl, q⟩
  · exact ⟨_, rfl, tv x (by (first | lia | omega))⟩
--SPLIT
/-! _law_told_number -/
noncomputable def sp_ltdn : Sp := fun vs H Q _ => ∃ (k : Int) (x : Str), vs = [.int k, .str x] ∧ KindS k ∧ x.length ≤ 100000 ∧ ∀ H', Same H H' → (∀ a v, tdN k (cl x) = some a → RN H' a v → Q v H') ∧ (tdN k (cl x) = none → Q .non H')
theorem kn_ltdn (hP : P.given.tree = none) (hS : base.NoSeer) (D : Df K mg "_law_told_number" ["_law_kind_here", "_law_word"] s__law_told_number) (d__law_figures : Kn P w K mg base "_law_figures" 41 ["_law_word"] sp_lfig) (d__law_divisor : Kn P w K mg base "_law_divisor" 1 ["_law_one", "_law_other"] sp_cd) (m_len : mg "len" = none) (m_int : mg "int" = none) : Kn P w K mg base "_law_told_number" 42 ["_law_kind_here", "_law_word"] sp_ltdn := by
  refine D.kn sc__law_told_number (fun vs H Q E h => ?_) (fun f cdv A outer s H vs Q E hr h => ?_)
  · obtain ⟨k, x, rfl, _⟩ := h; rfl
  obtain ⟨k, x, rfl, hk, lx, q⟩ := h
  have szl : sizeLine = 16777216 := by decide
  refine ⟨_, (pss_cons (ps_if (pt_cmpR op_gt (pv 0) pe_int (nomark _)) (pss_cons (ps_set (i := 2) sc__law_told_number.nd rfl (.inl rfl) (pe_kA d__law_figures hr (pa_cons (pv 1) pa_nil))) (pss_cons (ps_if (PW.pt (pw_or (pt_cmpR op_isN (pv 2) pe_non (nomark _)) (pw_or1 (pt_cmpR op_ge (pv 2) (pv 0) (nomark _))))) (pss_one (ps_ret pe_non)) pss_nil) (pss_one (ps_ret (pv 2))))) pss_nil) (pss_cons (ps_set (i := 3) sc__law_told_number.nd rfl (.inl rfl) (bm0 (fun _ h => pe_bm PySem.F.plainAttrs_str PySem.F.slot_str_split PySem.F.type_str_split mt_split h (pa_cons pe_str pa_nil)) (pv 1))) (pss_cons (ps_set (i := 4) sc__law_told_number.nd rfl (.inl rfl) (pe_callTy call_int1 rfl m_int bb_int (pa_cons (pe_cmpR op_eq (pe_slice sl_str (pe_iA ix_list0 (pv 3) pe_int) po_none (po_some pe_int)) pe_str (nomark _)) pa_nil))) (pss_cons (ps_set (i := 5) sc__law_told_number.nd rfl (.inl rfl) (pe_kA d__law_figures hr (pa_cons (pe_slice sl_str (pe_iA ix_list0 (pv 3) pe_int) (po_some (pv 4)) po_none) pa_nil))) (pss_cons (ps_if (PW.pt (pw_or (pt_cmpR op_isN (pv 5) pe_non (nomark _)) (pw_or (PW.pt (pw_and (pt_cmpR op_eq (pv 5) pe_int (nomark _)) (pw_and1 (pt_cmpR op_eq (pv 4) pe_int (nomark _))))) (pw_or1 (pt_cmpR op_gt (pe_callB call_len0 rfl m_len bb_len (pa_cons (pv 3) pa_nil)) pe_int (nomark _)))))) (pss_one (ps_ret pe_non)) pss_nil) (pss_cons (ps_set (i := 6) sc__law_told_number.nd rfl (.inl rfl) pe_int) (pss_cons (ps_if (pt_cmpR op_eq (pe_callB call_len0 rfl m_len bb_len (pa_cons (pv 3) pa_nil)) pe_int (nomark _)) (pss_cons (ps_set (i := 6) sc__law_told_number.nd rfl (.inl rfl) (pe_kA d__law_figures hr (pa_cons (pe_iA ix_list0 (pv 3) pe_int) pa_nil))) (pss_one (ps_if (PW.pt (pw_or (pt_cmpR op_isN (pv 6) pe_non (nomark _)) (pw_or (pt_cmpR op_lt (pv 6) pe_int (nomark _)) (pw_or1 (pt_cmpR op_ne (pe_kA d__law_divisor hr (pa_cons (pv 5) (pa_cons (pv 6) pa_nil))) pe_int (nomark _)))))) (pss_one (ps_ret pe_non)) pss_nil))) pss_nil) (pss_one (ps_ret (pe_tup (pa_cons (pe_op op_mulB (pv 5) (pe_op op_sub pe_int (pe_op op_mulB pe_int (pv 4)))) (pa_cons (pv 6) pa_nil)))))))))))), ?_⟩
  refine ⟨_, rfl, _, _, rfl, rfl, _, rfl, ?_⟩
  rcases hk with k0 | hp
  rotate_left
  · have k1 : 0 < k := by have := hp.lo; (first | lia | omega)
    have eN : tdN k (cl x) = (tdR k.toNat (cl x)).map fun (n : Nat) => Nb.z (n : Int) := by unfold tdN; rw [if_neg (by (first | lia | omega))]; cases tdR k.toNat (cl x) <;> rfl
    rw [decide_eq_true k1]
    refine iteT ?_
    refine ⟨_, rfl, x, rfl, lx, fun n hn => ?_, fun hn => ?_⟩
    rotate_left
    · refine ⟨_, rfl, rfl, _, rfl, iteT ((q H (Same.refl H)).2 ?_)⟩
      rw [eN]; unfold tdR; rw [hn]; rfl
    refine ⟨_, rfl, rfl, _, rfl, iteF ⟨_, rfl, _, rfl, _, _, rfl, rfl, _, rfl, ?_⟩⟩
    have eR : tdR k.toNat (cl x) = if k.toNat ≤ n then none else some n := by unfold tdR; rw [hn]
    by_cases c : k ≤ (n : Int)
    · rw [decide_eq_true c]
      refine iteT ((q H (Same.refl H)).2 ?_)
      rw [eN, eR, if_pos (by (first | lia | omega))]; rfl
    · rw [decide_eq_false c]
      refine iteF ⟨_, rfl, (q H (Same.refl H)).1 (.z (n : Int)) _ ?_ RN.of_z⟩
      rw [eN, eR, if_neg (by (first | lia | omega))]; rfl
  subst k0
  rw [decide_eq_false (show ¬ (0 : Int) < 0 by decide)]
  refine iteF ?_
  have es : Str.ofString "/" = ⟨#[47]⟩ := by decide +kernel
  have em : Str.ofString "-" = ⟨#[45]⟩ := by decide +kernel
  have sz := split_sz (y := Str.ofString "/") lx
  refine ⟨_, rfl, rfl, _, _, rfl, rfl, (by decide +kernel), (by (first | lia | omega)), sz.1, sz.2, fun pl hpl => ?_⟩
  rw [es]
  have no : ∀ H', Same H H' → tdQ (cl x) = none → Q .non H' := fun H' g e => (q H' g).2 (by show (tdQ (cl x)).map Nb.q = none; rw [e]; rfl)
  obtain ⟨a, L, hL, ea, m0, m1, m2⟩ := split47 x
  obtain ⟨y0, ys, hsp⟩ := List.exists_cons_of_ne_nil (show Txt.split x ⟨#[47]⟩ ≠ [] from fun z => by rw [z] at hL; cases hL)
  rw [hsp, List.map_cons] at hL
  have e0 : cl y0 = headP (cl x) := (List.cons.inj hL).1.trans ea
  have eL : L = ys.map cl := (List.cons.inj hL).2.symm
  subst eL
  have m0 : ys = [] → restP (cl x) = [] := fun z => m0 (by rw [z]; rfl)
  have m1 : ∀ b, ys.map cl = [b] → restP (cl x) = 47 :: b ∧ 47 ∉ b := m1
  have m2 : 2 ≤ ys.length → ∃ r, restP (cl x) = 47 :: r ∧ 47 ∈ r := fun z => m2 (by rw [List.length_map]; exact z)
  have hl1 : upd H pl (.lst ((Txt.split x ⟨#[47]⟩).map V.str)) pl = some (.lst (.str y0 :: ys.map V.str)) := by rw [hsp]; exact upd_same
  have g1 := same_new hpl (.lst ((Txt.split x ⟨#[47]⟩).map V.str))
  generalize upd H pl (.lst ((Txt.split x ⟨#[47]⟩).map V.str)) = H1 at *
  have lsp : (V.str y0 :: ys.map V.str).length = ys.length + 1 := by rw [List.length_cons, List.length_map]
  have ly0 : y0.length ≤ 100000 := Nat.le_trans (split_part (x := x) (y := ⟨#[47]⟩) (by rw [hsp]; exact List.mem_cons_self)) lx
  refine ⟨_, rfl, pl, _, _, .str y0, rfl, rfl, SqL.of hl1, atI_nat (j := 0) rfl, _, rfl, _, rfl, (by (first | lia | omega)), rfl, .inr ⟨_, rfl, ?_⟩⟩
  rw [em]
  have esl : decide (V.str (Txt.slice y0 none (some 1)) = V.str ⟨#[45]⟩) = decide ((headP (cl x)).head? = some 45) := by
    have h1 : cl (Txt.slice y0 none (some ((1 : Nat) : Int))) = (cl y0).take 1 := slice_to y0 1
    have h2 : (V.str (Txt.slice y0 none (some 1)) = V.str ⟨#[45]⟩) ↔ (headP (cl x)).head? = some 45 := by
      rw [← e0]
      constructor
      · intro z
        have z' := congrArg cl (V.str.inj z)
        rw [show cl (Txt.slice y0 none (some 1)) = (cl y0).take 1 from h1] at z'
        cases hc : cl y0 with
        | nil => rw [hc] at z'; cases z'
        | cons c r => rw [hc] at z'; exact congrArg List.head? z'
      · intro z
        refine congrArg V.str (cl_inj ?_)
        rw [show cl (Txt.slice y0 none (some 1)) = (cl y0).take 1 from h1]
        cases hc : cl y0 with
        | nil => rw [hc] at z; cases z
        | cons c r => rw [hc] at z; cases Option.some.inj z; rfl
    exact decide_eq_decide.mpr h2
  rw [esl]
  have tq : tdQ (cl x) = (match figW (if decide ((headP (cl x)).head? = some 45) = true then (headP (cl x)).tail else headP (cl x)) with
    | none => none
    | some t => if (t = 0 ∧ decide ((headP (cl x)).head? = some 45) = true) ∨ 47 ∈ (restP (cl x)).tail then none else
      match (if restP (cl x) = [] then some 1 else figW (restP (cl x)).tail) with
      | none => none
      | some b => if restP (cl x) ≠ [] ∧ (b < 2 ∨ Nat.gcd t b ≠ 1) then none else some (Rat.divInt (if decide ((headP (cl x)).head? = some 45) = true then -(t : Int) else t) (b : Int))) := rfl
  generalize decide ((headP (cl x)).head? = some 45) = sg at *
  have sl0 : cl (Txt.slice y0 (some (if sg = true then 1 else 0)) none) = if sg = true then (headP (cl x)).tail else headP (cl x) := by
    rw [← e0]
    cases sg with
    | true => exact (slice_from y0 1).trans (List.drop_one)
    | false => exact slice_from y0 0
  have lsl : (Txt.slice y0 (some (if sg = true then 1 else 0)) none).length ≤ 100000 := Nat.le_trans (Txt.slice_le y0 _ _) ly0
  refine ⟨_, rfl, pl, _, _, .str y0, rfl, rfl, SqL.of hl1, atI_nat (j := 0) rfl, _, rfl, _, rfl, _, rfl, (by (first | lia | omega)), _, rfl, lsl, fun t ht => ?_, fun ht => ?_⟩
  rotate_left
  · refine ⟨_, rfl, rfl, _, rfl, iteT (no H1 g1 ?_)⟩
    rw [tq, ← sl0, ht]
  have td : tdQ (cl x) = if (t = 0 ∧ sg = true) ∨ 47 ∈ (restP (cl x)).tail then none else
      match (if restP (cl x) = [] then some 1 else figW (restP (cl x)).tail) with
      | none => none
      | some b => if restP (cl x) ≠ [] ∧ (b < 2 ∨ Nat.gcd t b ≠ 1) then none else some (Rat.divInt (if sg = true then -(t : Int) else t) (b : Int)) := by rw [tq, ← sl0, ht]
  have fin : ∀ H' p (b : Nat), Same H H' → H' p = none → tdQ (cl x) = some (Rat.divInt (if sg = true then -(t : Int) else t) (b : Int)) → 0 < b → Nat.gcd t b = 1 → Q (.ref p) (upd H' p (.tup [.int ((t : Int) * (1 - 2 * (if sg = true then 1 else 0))), .int (b : Int)])) := fun H' p b g hp e b0 hg => by
    have ei : ((t : Int) * (1 - 2 * (if sg = true then 1 else 0))) = (if sg = true then -(t : Int) else t) := by cases sg <;> simp <;> (first | lia | omega)
    obtain ⟨d1, d2⟩ := divInt_low (i := if sg = true then -(t : Int) else t) b0 (by cases sg <;> simp [hg])
    rw [ei]
    refine (q _ (g.trans (same_new hp _))).1 (.q (Rat.divInt (if sg = true then -(t : Int) else t) (b : Int))) _ (by show (tdQ (cl x)).map Nb.q = _; rw [e]; rfl) ?_
    refine RN.of_q ?_
    rw [upd_same, d1, d2]
  refine ⟨_, rfl, rfl, _, rfl, iteF ⟨_, rfl, rfl, _, rfl, ?_⟩⟩
  by_cases t0 : t = 0
  · rw [decide_eq_true (show V.int (t : Int) = V.int 0 by rw [t0]; rfl)]
    refine iteT ⟨_, rfl, rfl, _, rfl, ?_⟩
    by_cases hs : sg = true
    · rw [if_pos hs, decide_eq_true rfl]
      refine iteT (no H1 g1 ?_)
      rw [td, if_pos (.inl ⟨t0, hs⟩)]
    rw [show decide (V.int (if sg = true then 1 else 0) = V.int 1) = false by rw [if_neg hs]; rfl]
    refine iteF ?_
    have nb : ¬ (t = 0 ∧ sg = true) := fun z => hs z.2
    refine ⟨_, rfl, pl, _, rfl, .inl (SqL.of hl1), _, _, rfl, rfl, _, rfl, ?_⟩
    rw [lsp]
    by_cases c2 : (2 : Int) < ((ys.length + 1 : Nat) : Int)
    · rw [decide_eq_true c2]
      refine iteT (no H1 g1 ?_)
      obtain ⟨r, e1, e2⟩ := m2 (by (first | lia | omega))
      rw [td, if_pos (.inr (by rw [e1]; exact e2))]
    rw [decide_eq_false c2]
    refine iteF ?_
    refine ⟨_, rfl, pl, _, rfl, .inl (SqL.of hl1), rfl, _, rfl, ?_⟩
    rw [lsp]
    cases ys with
    | nil =>
      have r0 := m0 rfl
      rw [decide_eq_false (show ¬ V.int (((([] : List Str).length + 1 : Nat)) : Int) = V.int 2 from fun z => by have := V.int.inj z; simp at this)]
      refine iteF ?_
      rw [r0, if_neg (fun z => z.elim nb (by simp)), if_pos rfl] at td
      have td' : tdQ (cl x) = some (Rat.divInt (if sg = true then -(t : Int) else t) ((1 : Nat) : Int)) := by rw [td]; show (if _ then _ else _) = _; rw [if_neg (fun z => z.1 rfl)]
      refine ⟨_, rfl, _, rfl, _, _, rfl, rfl, mulok_left (by decide) (by cases sg <;> decide), _, _, rfl, rfl, _, _, rfl, rfl, mulok_right (by cases sg <;> decide) (by cases sg <;> decide), _, rfl, (by show 2 ≤ sizeLine; decide), fun p hp => fin H1 p 1 g1 hp td' (by decide) (Nat.gcd_one_right _)⟩
    | cons y1 ys' =>
      have y' : ys' = [] := List.length_eq_zero_iff.mp (by rw [List.length_cons] at c2; (first | lia | omega))
      subst y'
      obtain ⟨e1, e2⟩ := m1 (cl y1) rfl
      rw [decide_eq_true (show V.int (((([y1] : List Str).length + 1 : Nat)) : Int) = V.int 2 from rfl)]
      refine iteT ?_
      rw [e1, if_neg (fun z => z.elim nb e2), if_neg (by simp), List.tail_cons] at td
      have ly1 : y1.length ≤ 100000 := Nat.le_trans (split_part (x := x) (y := ⟨#[47]⟩) (by rw [hsp]; exact List.mem_cons_of_mem _ List.mem_cons_self)) lx
      refine ⟨_, rfl, pl, _, _, .str y1, rfl, rfl, SqL.of hl1, atI_nat (j := 1) rfl, y1, rfl, ly1, fun b hb => ?_, fun hb => ?_⟩
      rotate_left
      · refine ⟨_, rfl, rfl, _, rfl, iteT (no H1 g1 ?_)⟩
        rw [td, hb]
      rw [hb] at td
      have td1 : tdQ (cl x) = if b < 2 ∨ Nat.gcd t b ≠ 1 then none else some (Rat.divInt (if sg = true then -(t : Int) else t) (b : Int)) := by
        rw [td]
        show (if _ then _ else _) = _
        by_cases z : b < 2 ∨ Nat.gcd t b ≠ 1
        · rw [if_pos z, if_pos ⟨by simp, z⟩]
        · rw [if_neg z, if_neg fun u => z u.2]
      refine ⟨_, rfl, rfl, _, rfl, iteF ?_⟩
      refine ⟨_, rfl, _, _, rfl, rfl, _, rfl, ?_⟩
      by_cases b2 : (b : Int) < 2
      · rw [decide_eq_true b2]
        refine iteT (no H1 g1 ?_)
        rw [td1, if_pos (.inl (by (first | lia | omega)))]
      rw [decide_eq_false b2]
      refine iteF ?_
      refine ⟨_, rfl, _, rfl, (t : Int), (b : Int), rfl, rfl, _, rfl, ?_⟩
      have eg : Int.gcd (t : Int) (b : Int) = Nat.gcd t b := by rw [Int.gcd_eq_natAbs_gcd_natAbs]; rfl
      by_cases g : Nat.gcd t b = 1
      · rw [eg, decide_eq_true (show V.int ((Nat.gcd t b : Nat) : Int) = V.int 1 by rw [g]; rfl)]
        refine iteF ?_
        refine ⟨_, rfl, _, rfl, _, _, rfl, rfl, mulok_left (by decide) (by cases sg <;> decide), _, _, rfl, rfl, _, _, rfl, rfl, mulok_right (by cases sg <;> decide) (by cases sg <;> decide), _, rfl, (by show 2 ≤ sizeLine; decide), fun p hp => fin H1 p b g1 hp (by rw [td1, if_neg fun z => z.elim (fun z => by (first | lia | omega)) fun z => z g]) (by (first | lia | omega)) g⟩
      · rw [eg, decide_eq_false (show ¬ V.int ((Nat.gcd t b : Nat) : Int) = V.int 1 from fun z => g (by have := V.int.inj z; (first | lia | omega)))]
        refine iteT (no H1 g1 ?_)
        rw [td1, if_pos (.inr g)]
  · rw [decide_eq_false (show ¬ V.int (t : Int) = V.int 0 from fun z => t0 (by have := V.int.inj z; (first | lia | omega)))]
    refine iteF (iteF ?_)
    have nb : ¬ (t = 0 ∧ sg = true) := fun z => t0 z.1
    refine ⟨_, rfl, pl, _, rfl, .inl (SqL.of hl1), _, _, rfl, rfl, _, rfl, ?_⟩
    rw [lsp]
    by_cases c2 : (2 : Int) < ((ys.length + 1 : Nat) : Int)
    · rw [decide_eq_true c2]
      refine iteT (no H1 g1 ?_)
      obtain ⟨r, e1, e2⟩ := m2 (by (first | lia | omega))
      rw [td, if_pos (.inr (by rw [e1]; exact e2))]
    rw [decide_eq_false c2]
    refine iteF ?_
    refine ⟨_, rfl, pl, _, rfl, .inl (SqL.of hl1), rfl, _, rfl, ?_⟩
    rw [lsp]
    cases ys with
    | nil =>
      have r0 := m0 rfl
      rw [decide_eq_false (show ¬ V.int (((([] : List Str).length + 1 : Nat)) : Int) = V.int 2 from fun z => by have := V.int.inj z; simp at this)]
      refine iteF ?_
      rw [r0, if_neg (fun z => z.elim nb (by simp)), if_pos rfl] at td
      have td' : tdQ (cl x) = some (Rat.divInt (if sg = true then -(t : Int) else t) ((1 : Nat) : Int)) := by rw [td]; show (if _ then _ else _) = _; rw [if_neg (fun z => z.1 rfl)]
      refine ⟨_, rfl, _, rfl, _, _, rfl, rfl, mulok_left (by decide) (by cases sg <;> decide), _, _, rfl, rfl, _, _, rfl, rfl, mulok_right (by cases sg <;> decide) (by cases sg <;> decide), _, rfl, (by show 2 ≤ sizeLine; decide), fun p hp => fin H1 p 1 g1 hp td' (by decide) (Nat.gcd_one_right _)⟩
    | cons y1 ys' =>
      have y' : ys' = [] := List.length_eq_zero_iff.mp (by rw [List.length_cons] at c2; (first | lia | omega))
      subst y'
      obtain ⟨e1, e2⟩ := m1 (cl y1) rfl
      rw [decide_eq_true (show V.int (((([y1] : List Str).length + 1 : Nat)) : Int) = V.int 2 from rfl)]
      refine iteT ?_
      rw [e1, if_neg (fun z => z.elim nb e2), if_neg (by simp), List.tail_cons] at td
      have ly1 : y1.length ≤ 100000 := Nat.le_trans (split_part (x := x) (y := ⟨#[47]⟩) (by rw [hsp]; exact List.mem_cons_of_mem _ List.mem_cons_self)) lx
      refine ⟨_, rfl, pl, _, _, .str y1, rfl, rfl, SqL.of hl1, atI_nat (j := 1) rfl, y1, rfl, ly1, fun b hb => ?_, fun hb => ?_⟩
      rotate_left
      · refine ⟨_, rfl, rfl, _, rfl, iteT (no H1 g1 ?_)⟩
        rw [td, hb]
      rw [hb] at td
      have td1 : tdQ (cl x) = if b < 2 ∨ Nat.gcd t b ≠ 1 then none else some (Rat.divInt (if sg = true then -(t : Int) else t) (b : Int)) := by
        rw [td]
        show (if _ then _ else _) = _
        by_cases z : b < 2 ∨ Nat.gcd t b ≠ 1
        · rw [if_pos z, if_pos ⟨by simp, z⟩]
        · rw [if_neg z, if_neg fun u => z u.2]
      refine ⟨_, rfl, rfl, _, rfl, iteF ?_⟩
      refine ⟨_, rfl, _, _, rfl, rfl, _, rfl, ?_⟩
      by_cases b2 : (b : Int) < 2
      · rw [decide_eq_true b2]
        refine iteT (no H1 g1 ?_)
        rw [td1, if_pos (.inl (by (first | lia | omega)))]
      rw [decide_eq_false b2]
      refine iteF ?_
      refine ⟨_, rfl, _, rfl, (t : Int), (b : Int), rfl, rfl, _, rfl, ?_⟩
      have eg : Int.gcd (t : Int) (b : Int) = Nat.gcd t b := by rw [Int.gcd_eq_natAbs_gcd_natAbs]; rfl
      by_cases g : Nat.gcd t b = 1
      · rw [eg, decide_eq_true (show V.int ((Nat.gcd t b : Nat) : Int) = V.int 1 by rw [g]; rfl)]
        refine iteF ?_
        refine ⟨_, rfl, _, rfl, _, _, rfl, rfl, mulok_left (by decide) (by cases sg <;> decide), _, _, rfl, rfl, _, _, rfl, rfl, mulok_right (by cases sg <;> decide) (by cases sg <;> decide), _, rfl, (by show 2 ≤ sizeLine; decide), fun p hp => fin H1 p b g1 hp (by rw [td1, if_neg fun z => z.elim (fun z => by (first | lia | omega)) fun z => z g]) (by (first | lia | omega)) g⟩
      · rw [eg, decide_eq_false (show ¬ V.int ((Nat.gcd t b : Nat) : Int) = V.int 1 from fun z => g (by have := V.int.inj z; (first | lia | omega)))]
        refine iteT (no H1 g1 ?_)
        rw [td1, if_pos (.inr g)]
--SPLIT
/-! _law_told -/
noncomputable def RO (H : Hp) (o : Option Nb) (v : V) : Prop := match o with
  | some a => RN H a v
  | none => v = .non
theorem RO.mono {H H' : Hp} {o : Option Nb} {v : V} (g : Same H H') (h : RO H o v) : RO H' o v := by
  cases o with
  | some a => exact (show RN H a v from h).mono g
  | none => exact h
theorem toD_none (x : Nb) : PyData.eqv (toD x) .none = false := by cases x <;> rfl
theorem rn_ne {H : Hp} {x : Nb} {v : V} (h : RN H x v) : v ≠ .non := by
  cases x with
  | z i => rw [h.z]; exact fun z => nomatch z
  | q r => obtain ⟨a, rfl, _⟩ := h.q; exact fun z => nomatch z
theorem ro_dat {H : Hp} {os : List (Option Nb)} {ys : List V} (h : Paired (RO H) os ys) : ∀ v ∈ ys, ∃ d, Rp H d v ∧ d.canLay0 = true ∧ PyData.eqv d .none = decide (v = .non) := fun v hv => by
  obtain ⟨o, ho, r⟩ := pd_mem h hv
  cases o with
  | none =>
    have e : v = .non := r
    subst e
    exact ⟨.none, none_rp, by decide, by decide⟩
  | some a =>
    have r' : RN H a v := r
    exact ⟨toD a, r', toD_lay a, by rw [toD_none, decide_eq_false (rn_ne r')]⟩
theorem ro_any {H : Hp} : ∀ {os : List (Option Nb)} {ys : List V}, Paired (RO H) os ys → ((ys.any fun v => decide (v = .non)) = true ∧ none ∈ os) ∨ ((ys.any fun v => decide (v = .non)) = false ∧ ∃ xs, os = xs.map some ∧ Paired (RN H) xs ys)
  | _, _, .nil => .inr ⟨rfl, [], rfl, .nil⟩
  | o :: os, y :: ys, .cons r t => by
    rw [List.any_cons]
    cases o with
    | none =>
      have e : y = .non := r
      exact .inl ⟨by rw [decide_eq_true e]; rfl, List.mem_cons_self⟩
    | some a =>
      have r' : RN H a y := r
      rw [decide_eq_false (rn_ne r'), Bool.false_or]
      rcases ro_any t with ⟨h1, h2⟩ | ⟨h1, xs, h2, h3⟩
      · exact .inl ⟨h1, List.mem_cons_of_mem _ h2⟩
      · exact .inr ⟨h1, a :: xs, by rw [h2]; rfl, .cons r' h3⟩
theorem okT_long {W : List (List (Option Nb))} {r : List (Option Nb)} (hr : r ∈ W) (h : 12 < r.length) : okT W = none := if_neg fun z => by have := (z.1 r hr).2; have := z.2.1; (first | lia | omega)
theorem okT_diff {W : List (List (Option Nb))} {r : List (Option Nb)} (hr : r ∈ W) (h : r.length ≠ (W.headD []).length) : okT W = none := if_neg fun z => h (z.1 r hr).2
noncomputable def sp_ltold : Sp := fun vs H Q _ => ∃ (k : Int) (v : V), vs = [.int k, v] ∧ KindS k ∧ TxV v ∧ ∀ H', Same H H' → (∀ x M t ras, v = .str x → tdT k x = some M → TabAt H' M t ras → Q (.ref t) H') ∧ ((∀ x, v = .str x → tdT k x = none) → Q .non H')
theorem kn_ltold (D : Df K mg "_law_told" ["_law_kind_here", "_law_text_here"] s__law_told) (d__law_told_number : Kn P w K mg base "_law_told_number" 42 ["_law_kind_here", "_law_word"] sp_ltdn) (m_len : mg "len" = none) (m_isinstance : mg "isinstance" = none) (m_str : mg "str" = none) : Kn P w K mg base "_law_told" 43 ["_law_kind_here", "_law_text_here"] sp_ltold := by
  refine D.kn sc__law_told (fun vs H Q E h => ?_) (fun f cdv A outer s H vs Q E hr h => ?_)
  · obtain ⟨k, v, rfl, _⟩ := h; rfl
  obtain ⟨k, v, rfl, hs, tv, q⟩ := h
  have szl : sizeLine = 16777216 := by decide
  refine ⟨_, (pss_cons (ps_if (pt_not (pt_val (pe_callB (call_isiK (K := K) rfl) rfl m_isinstance bb_isinstance (pa_cons (pv 1) (pa_cons (pe_ty rfl m_str bb_str) pa_nil))))) (pss_one (ps_ret pe_non)) pss_nil) (pss_cons (ps_set (i := 2) sc__law_told.nd rfl (.inl rfl) (pe_lst pa_nil)) (pss_cons (ps_for PassesOwn.never rfl (pi_list0 (bm0 (fun _ h => pe_bm PySem.F.plainAttrs_str PySem.F.slot_str_split PySem.F.type_str_split mt_split h (pa_cons pe_str pa_nil)) (pv 1))) (pg_name (i := 3) sc__law_told.nd rfl (.inl rfl)) (pss_cons (ps_cN 4 sc__law_told.nd ["_law_kind_here"] [0] (pi_list0 (bm0 (fun _ h => pe_bm PySem.F.plainAttrs_str PySem.F.slot_str_split PySem.F.type_str_split mt_split h (pa_cons pe_str pa_nil)) (pv 3))) fun _ _ _ _ _ _ => ⟨pts_nil, (pe_kA d__law_told_number hr (pa_cons (pv 1) (pa_cons (pv 0) pa_nil)))⟩) (pss_cons (ps_if (PW.pt (pw_or (pt_cmpR (op_inN hr) pe_non (pv 4) (by with_unfolding_all rfl)) (pw_or1 (pt_cmpR op_gt (pe_callB call_len0 rfl m_len bb_len (pa_cons (pv 4) pa_nil)) pe_int (nomark _))))) (pss_one (ps_ret pe_non)) pss_nil) (pss_cons (ps_expr (bm0 (fun _ h => pe_bm PySem.F.plainAttrs_list PySem.F.slot_list_append PySem.F.type_list_append mt_append h (pa_cons (pv 4) pa_nil)) (pv 2))) (pss_one (ps_if (pt_cmpR op_ne (pe_callB call_len0 rfl m_len bb_len (pa_cons (pv 4) pa_nil)) (pe_callB call_len0 rfl m_len bb_len (pa_cons (pe_iA ix_list0 (pv 2) pe_int) pa_nil)) (nomark _)) (pss_one (ps_ret pe_non)) pss_nil)))))) (pss_cons (ps_if (pt_cmpR op_gt (pe_callB call_len0 rfl m_len bb_len (pa_cons (pv 2) pa_nil)) pe_int (nomark _)) (pss_one (ps_ret pe_non)) pss_nil) (pss_one (ps_ret (pv 2))))))), ?_⟩
  rcases tv with ⟨x, rfl, lx⟩ | rfl | ⟨i, rfl⟩
  rotate_left
  · exact ⟨_, rfl, _, _, _, _, rfl, TyOf.non, kit_ny K, _, rfl, iteT ((q H (Same.refl _)).2 fun x e => nomatch e)⟩
  · exact ⟨_, rfl, _, _, _, _, rfl, TyOf.int i, kit_iy K, _, rfl, iteT ((q H (Same.refl _)).2 fun x e => nomatch e)⟩
  refine ⟨_, rfl, _, _, _, _, rfl, TyOf.str x, kit_sy K, _, rfl, iteF ?_⟩
  dsimp only
  have no : ∀ H', Same H H' → tdT k x = none → Q .non H' := fun H' g e => (q H' g).2 fun y ey => by cases V.str.inj ey; exact e
  refine ⟨(by show 0 ≤ sizeLine; decide), fun pf hpf => ?_⟩
  have hf0 : upd H pf (.lst []) pf = some (.lst (([] : List Addr).map V.ref)) := upd_same
  have g0 := same_new hpf (.lst [])
  generalize upd H pf (.lst []) = H0 at *
  have sz := split_sz (y := Str.ofString "; ") (show x.length ≤ 100000 by (first | lia | omega))
  refine ⟨_, rfl, rfl, _, _, rfl, rfl, (by decide +kernel), (by (first | lia | omega)), sz.1, sz.2, fun pl hpl => ?_⟩
  have g1 := same_new hpl (.lst ((Txt.split x (Str.ofString "; ")).map V.str))
  have hl1 : upd H0 pl (.lst ((Txt.split x (Str.ofString "; ")).map V.str)) pl = some (.lst ((Txt.split x (Str.ofString "; ")).map V.str)) := upd_same
  have nfl : pf ≠ pl := fun e => by rw [e, hpl] at hf0; cases hf0
  have hf1 := g1 _ _ hf0
  generalize upd H0 pl (.lst ((Txt.split x (Str.ofString "; ")).map V.str)) = H1 at *
  have hpart : ∀ y ∈ Txt.split x (Str.ofString "; "), y.length ≤ 50000 := fun y hy => Nat.le_trans (split_part hy) lx
  have eW : (wordsT x).map (fun r => r.map fun w => tdN k (cl w)) = (Txt.split x (Str.ofString "; ")).map fun y => (Txt.split y (Str.ofString " ")).map fun w => tdN k (cl w) := by unfold wordsT; rw [List.map_map]; rfl
  have lW : (Txt.split x (Str.ofString "; ")).length = (wordsT x).length := by unfold wordsT; rw [List.length_map]
  have l1 := words_pos x
  have erd : tdT k x = okT ((Txt.split x (Str.ofString "; ")).map fun y => (Txt.split y (Str.ofString " ")).map fun w => tdN k (cl w)) := by unfold tdT; rw [eW]
  rw [← lW] at l1
  clear eW lW
  have lps : (Txt.split x (Str.ofString "; ")).length ≤ 50002 := Nat.le_trans (fact_split x _).2 (by (first | lia | omega))
  generalize Txt.split x (Str.ofString "; ") = ps at *
  generalize hW : (ps.map fun y => (Txt.split y (Str.ofString " ")).map fun w => tdN k (cl w)) = W at *
  refine ⟨pl, rfl, ⟨_, SqL.of hl1⟩, ?_⟩
  refine for_list (xs := ps.map V.str) (fun i σ H' => ∃ o3 o4 M ras, σ = [some (.int k), some (.str x), some (.ref pf), o3, o4] ∧ Grow H H' M ras ∧ pf ∉ ras ∧ H' pf = some (.lst (ras.map V.ref)) ∧ H' pl = some (.lst (ps.map V.str)) ∧ W.take i = (M.map fun r => r.map some) ∧ M.length = i ∧ ∀ r ∈ M, r.length ≤ 12 ∧ r.length = (W.headD []).length) ⟨_, _, [], [], rfl, Grow.nil H (g0.trans g1), (by simp), hf1, hl1, rfl, rfl, fun r hr => nomatch hr⟩ ?_ ?_ ?_
  · rintro i σ H' _ ⟨o3, o4, M, ras, rfl, G, nf, hf, hl, e, eM, ok⟩
    exact SqL.of hl
  · rintro i v σ H' hv ⟨o3, o4, M, ras, rfl, G, nf, hf, hl, e, eM, ok⟩
    rw [List.getElem?_map] at hv
    obtain ⟨y, hy, rfl⟩ := Option.map_eq_some_iff.mp hv
    have ly := hpart y (List.mem_of_getElem? hy)
    have li : i < ps.length := (List.getElem?_eq_some_iff.mp hy).1
    have lra := pd_len G.rows
    have sz2 := split_sz (y := Str.ofString " ") (show y.length ≤ 100000 by (first | lia | omega))
    have eY : W[i]? = some ((Txt.split y (Str.ofString " ")).map fun w => tdN k (cl w)) := by rw [← hW, List.getElem?_map, hy]; rfl
    refine ⟨_, rfl, rfl, _, _, rfl, rfl, (by decide +kernel), (by (first | lia | omega)), sz2.1, sz2.2, fun p2 hp2 => ?_⟩
    have g2 := same_new hp2 (.lst ((Txt.split y (Str.ofString " ")).map V.str))
    have hl2 : upd H' p2 (.lst ((Txt.split y (Str.ofString " ")).map V.str)) p2 = some (.lst ((Txt.split y (Str.ofString " ")).map V.str)) := upd_same
    generalize upd H' p2 (.lst ((Txt.split y (Str.ofString " ")).map V.str)) = H2 at *
    have hw : ∀ z ∈ Txt.split y (Str.ofString " "), z.length ≤ 50000 := fun z hz => Nat.le_trans (split_part hz) ly
    have lws : (Txt.split y (Str.ofString " ")).length ≤ 50002 := Nat.le_trans (fact_split y _).2 (by (first | lia | omega))
    generalize Txt.split y (Str.ofString " ") = ws at *
    refine ⟨p2, rfl, ⟨_, SqL.of hl2⟩, ?_⟩
    refine comp_list (xs := ws.map V.str) (fun j ys2 H3 => Same H2 H3 ∧ Paired (RO H3) ((ws.map fun w => tdN k (cl w)).take j) ys2) ⟨Same.refl _, .nil⟩ ?_ ?_ ?_
    · rintro j ys2 H3 hj ⟨g3, pr⟩
      refine ⟨SqL.of (g3 _ _ hl2), ?_⟩
      have e1 := pd_len pr
      rw [List.length_take, List.length_map] at e1
      rw [List.length_map] at hj; (first | lia | omega)
    · rintro j u ys2 H3 hu hj ⟨g3, pr⟩
      rw [List.getElem?_map] at hu
      obtain ⟨z, hz, rfl⟩ := Option.map_eq_some_iff.mp hu
      have lz := hw z (List.mem_of_getElem? hz)
      have eZ : (ws.map fun w => tdN k (cl w))[j]? = some (tdN k (cl z)) := by rw [List.getElem?_map, hz]; rfl
      first | refine gyes ?_ | refine tyes ?_
      refine ⟨_, rfl, _, rfl, k, z, rfl, hs, (by (first | lia | omega)), fun H4 g4 => ⟨fun a v ha hv => nxt hj ⟨g3.trans g4, ?_⟩, fun hn => nxt hj ⟨g3.trans g4, ?_⟩⟩⟩
      · rw [take_snoc eZ, ha]
        exact pd_snoc (pd_imp (fun _ _ r => r.mono g4) pr) hv
      · rw [take_snoc eZ, hn]
        exact pd_snoc (pd_imp (fun _ _ r => r.mono g4) pr) rfl
    rintro ys2 H3 ⟨g3, pr⟩ p3 hp3
    rw [List.length_map, List.take_of_length_le (by rw [List.length_map]; exact Nat.le_refl _)] at pr
    have g23 := g2.trans g3
    have hp3' : H' p3 = none := g23.none hp3
    have g4 := same_new hp3 (.lst ys2)
    have pr4 := pd_imp (fun _ _ r => RO.mono g4 r) pr
    have h4 : upd H3 p3 (.lst ys2) p3 = some (.lst ys2) := upd_same
    have ly2 := pd_len pr
    rw [List.length_map] at ly2
    generalize upd H3 p3 (.lst ys2) = H4 at *
    have gE := (G.same.trans g23).trans g4
    refine ⟨_, rfl, p3, ys2, rfl, rfl, h4, ro_dat pr4, _, rfl, ?_⟩
    rcases ro_any pr4 with ⟨b1, b2⟩ | ⟨b1, xs, b2, b3⟩
    · rw [b1]
      refine iteT (no _ gE ?_)
      rw [erd]; exact okT_none (List.mem_of_getElem? eY) b2
    rw [b1]
    refine iteF ?_
    rw [b2] at eY
    have lxs : xs.length = ys2.length := pd_len b3
    refine ⟨_, rfl, p3, _, rfl, .inl (SqL.of h4), _, _, rfl, rfl, _, rfl, ?_⟩
    by_cases c12 : (12 : Int) < (ys2.length : Int)
    · rw [decide_eq_true c12]
      refine iteT (no _ gE ?_)
      rw [erd]; exact okT_long (List.mem_of_getElem? eY) (by rw [List.length_map]; (first | lia | omega))
    rw [decide_eq_false c12]
    refine iteF ?_
    have hf4 := g4 _ _ (g23 _ _ hf)
    obtain ⟨G5, nf5⟩ := G.pushR (zs' := ras.map V.ref ++ [V.ref p3]) hpf hf nf (g23.trans g4) hp3' ⟨ys2, h4, b3⟩
    refine ⟨_, rfl, .inl ⟨rfl, _, SqL.of hf4⟩, _, rfl, pf, _, _, rfl, rfl, hf4, (by rw [List.length_map]; (first | lia | omega)), ?_⟩
    have h5 : upd H4 pf (.lst (ras.map V.ref ++ [V.ref p3])) pf = some (.lst ((ras ++ [p3]).map V.ref)) := by rw [upd_same, List.map_append]; rfl
    have n53 : p3 ≠ pf := fun z => by rw [z, hf] at hp3'; cases hp3'
    have h53 : upd H4 pf (.lst (ras.map V.ref ++ [V.ref p3])) p3 = some (.lst ys2) := by rw [upd_ne n53]; exact h4
    have h5l : upd H4 pf (.lst (ras.map V.ref ++ [V.ref p3])) pl = some (.lst (ps.map V.str)) := by rw [upd_ne (Ne.symm nfl)]; exact g4 _ _ (g23 _ _ hl)
    generalize upd H4 pf (.lst (ras.map V.ref ++ [V.ref p3])) = H5 at *
    obtain ⟨r0, a0, e0, ea0, hr0, hl0⟩ : ∃ (r0 : List Nb) (a0 : Addr), (M ++ [xs])[0]? = some r0 ∧ (ras ++ [p3])[0]? = some a0 ∧ RowAt H5 r0 a0 ∧ r0.length = (W.headD []).length := by
      obtain ⟨r0, e0⟩ : ∃ r0, (M ++ [xs])[0]? = some r0 := ⟨_, List.getElem?_eq_getElem (by simp)⟩
      obtain ⟨a0, ea0, hr0⟩ := pd_left G5.rows e0
      refine ⟨r0, a0, e0, ea0, hr0, ?_⟩
      cases M with
      | nil =>
        have i0 : i = 0 := eM.symm
        subst i0
        have : r0 = xs := (Option.some.inj e0).symm
        subst this
        cases W with
        | nil => cases eY
        | cons a W' =>
          have : a = r0.map some := Option.some.inj eY
          show _ = a.length
          rw [this, List.length_map]
      | cons r M' =>
        have : r0 = r := (Option.some.inj e0).symm
        subst this
        exact (ok r0 List.mem_cons_self).2
    obtain ⟨us0, hu0, pu0, lu0⟩ := hr0.len
    refine ⟨_, rfl, p3, _, rfl, .inl (SqL.of h53), _, rfl, pf, _, _, .ref a0, rfl, rfl, SqL.of h5, atI_nat (j := 0) (by rw [List.getElem?_map, ea0]; rfl), a0, _, rfl, .inl (SqL.of hu0), rfl, _, rfl, ?_⟩
    by_cases ed : xs.length = (W.headD []).length
    · rw [decide_eq_true (show V.int (ys2.length : Int) = V.int (us0.length : Int) by rw [lu0, hl0, ← ed, lxs])]
      refine iteF ⟨_, _, M ++ [xs], ras ++ [p3], rfl, G5, nf5, h5, h5l, ?_, by rw [List.length_append, eM]; rfl, fun r hr' => ?_⟩
      · rw [take_snoc eY, e, List.map_append]; rfl
      · rcases List.mem_append.mp hr' with h | h
        · exact ok r h
        · rw [List.mem_singleton.mp h]; exact ⟨by (first | lia | omega), ed⟩
    · rw [decide_eq_false (show ¬ V.int (ys2.length : Int) = V.int (us0.length : Int) from fun z => ed (by have := V.int.inj z; (first | lia | omega)))]
      refine iteT (no _ G5.same ?_)
      rw [erd]; exact okT_diff (List.mem_of_getElem? eY) (by rw [List.length_map]; exact ed)
  rintro σ H2 ⟨o3, o4, M, ras, rfl, G, nf, hf, hl, e, eM, ok⟩
  have lra := pd_len G.rows
  rw [List.length_map] at eM e
  rw [List.take_of_length_le (by rw [← hW, List.length_map]; exact Nat.le_refl _)] at e
  obtain ⟨r0, M', eM0⟩ := List.exists_cons_of_ne_nil (show M ≠ [] from fun z => by rw [z] at eM; simp at eM; (first | lia | omega))
  have eh : (W.headD []).length = (M.headD []).length := by rw [e, eM0]; show (r0.map some).length = r0.length; rw [List.length_map]
  rw [e, okT_all] at erd
  refine ⟨_, rfl, pf, _, rfl, .inl (SqL.of hf), _, _, rfl, rfl, _, rfl, ?_⟩
  rw [List.length_map, ← lra]
  by_cases c12 : (12 : Int) < (M.length : Int)
  · rw [decide_eq_true c12]
    refine iteT (no _ G.same ?_)
    rw [erd, if_neg fun z => by have := z.2.2; (first | lia | omega)]
  · rw [decide_eq_false c12]
    refine iteF ⟨_, rfl, (q H2 G.same).1 x M pf ras rfl ?_ ⟨hf, G.rows⟩⟩
    have m0 := ok r0 (by rw [eM0]; exact List.mem_cons_self)
    rw [erd, if_pos ⟨fun r hr' => by rw [← eh]; exact (ok r hr').2, by rw [← eh, ← m0.2]; exact m0.1, by (first | lia | omega)⟩]
--SPLIT
/-! _law_is -/
theorem tdN_ok {k : Int} (hk : KindS k) {w : List Nat} {a : Nb} (h : tdN k w = some a) : a.ok k := by
  unfold tdN at h
  by_cases k0 : k = 0
  · rw [if_pos k0] at h
    obtain ⟨r, _, rfl⟩ := Option.map_eq_some_iff.mp h
    exact k0
  · rw [if_neg k0] at h
    have kp : 0 < k := by
      rcases hk with z | z
      · exact absurd z k0
      · have := z.lo; (first | lia | omega)
    cases e : tdR k.toNat w with
    | none => rw [e] at h; cases h
    | some m =>
      rw [e] at h
      have ha : Nb.z (m : Int) = a := Option.some.inj h
      subst ha
      refine ⟨k0, by (first | lia | omega), ?_⟩
      unfold tdR at e
      cases e2 : figW w with
      | none => rw [e2] at e; cases e
      | some n =>
        rw [e2] at e
        have e' : (if k.toNat ≤ n then none else some n) = some m := e
        split at e'
        · cases e'
        · have := Option.some.inj e'; (first | lia | omega)
theorem tdT_ok {k : Int} (hk : KindS k) {x : Str} {M : List (List Nb)} (h : tdT k x = some M) : ∀ r ∈ M, ∀ a ∈ r, a.ok k := fun r hr a ha => by
  unfold tdT okT at h
  split at h
  · rename_i c
    have e := Option.some.inj h
    rw [← e] at hr
    obtain ⟨r1, hr1, rfl⟩ := List.mem_map.mp hr
    obtain ⟨o, ho, rfl⟩ := List.mem_map.mp ha
    have ne := (c.1 r1 hr1).1 o ho
    obtain ⟨ws, _, rfl⟩ := List.mem_map.mp hr1
    obtain ⟨w, _, rfl⟩ := List.mem_map.mp ho
    cases e2 : tdN k (cl w) with
    | none => exact absurd e2 ne
    | some a => exact tdN_ok hk e2
  · cases h
noncomputable def sp_lis : Sp := fun vs H Q _ => ∃ (k : Int) (M : List (List Nb)) (t t2 : Addr) (ras ras2 : List Addr), vs = [.int k, .ref t, .ref t2] ∧ TabAt H M t ras ∧ TabAt H M t2 ras2 ∧ (∀ r ∈ M, ∀ a ∈ r, a.ok k) ∧ Q (.bl true) H
theorem kn_lis (D : Df K mg "_law_is" ["_law_kind_here", "_law_found", "_law_due"] s__law_is) (m_isinstance : mg "isinstance" = none) (m_list : mg "list" = none) (m_bool : mg "bool" = none) (m_tuple : mg "tuple" = none) : Kn P w K mg base "_law_is" 41 ["_law_kind_here", "_law_found", "_law_due"] sp_lis := by
  refine D.kn sc__law_is (fun vs H Q E h => ?_) (fun f cdv A outer s H vs Q E hr h => ?_)
  · obtain ⟨k, M, t, t2, ras, ras2, rfl, _⟩ := h; rfl
  obtain ⟨k, M, t, t2, ras, ras2, rfl, hT, hT2, ok, q⟩ := h
  refine ⟨_, (pss_cons (ps_if (PW.pt (pw_or (pt_not (pt_val (pe_callB (call_isiK (K := K) rfl) rfl m_isinstance bb_isinstance (pa_cons (pv 1) (pa_cons (pe_ty rfl m_list bb_list) pa_nil))))) (pw_or1 (pt_cmpR (op_neD hr) (pv 1) (pv 2) (nomark _))))) (pss_one (ps_ret pe_bl)) pss_nil) (pss_cons (ps_for PassesOwn.never rfl (pi_list0 (pv 1)) (pg_name (i := 3) sc__law_is.nd rfl (.inl rfl)) (pss_cons (ps_if (pt_not (pt_val (pe_callB (call_isiK (K := K) rfl) rfl m_isinstance bb_isinstance (pa_cons (pv 3) (pa_cons (pe_ty rfl m_list bb_list) pa_nil))))) (pss_one (ps_ret pe_bl)) pss_nil) (pss_one (ps_for PassesOwn.never rfl (pi_list0 (pv 3)) (pg_name (i := 4) sc__law_is.nd rfl (.inl rfl)) (pss_one (ps_if (PW.pt (pw_or (pt_val (pe_callB (call_isiK (K := K) rfl) rfl m_isinstance bb_isinstance (pa_cons (pv 4) (pa_cons (pe_ty rfl m_bool bb_bool) pa_nil)))) (pw_or1 (pt_cmpR op_ne (pe_callB (call_isiK (K := K) rfl) rfl m_isinstance bb_isinstance (pa_cons (pv 4) (pa_cons (pe_ty rfl m_tuple bb_tuple) pa_nil))) (pe_cmpR op_eq (pv 0) pe_int (nomark _)) (nomark _))))) (pss_one (ps_ret pe_bl)) pss_nil)))))) (pss_one (ps_ret pe_bl)))), ?_⟩
  refine ⟨_, rfl, _, _, _, _, rfl, TyOf.lst hT.1, kit_ll K, _, rfl, iteF ?_⟩
  refine ⟨_, rfl, _, rfl, _, _, hT.rp, hT2.rp, tabD_lay _, tabD_lay _, Nat.le_trans (Nat.min_le_left _ _) (Nat.le_trans (tabD_depth _) (by decide)), _, rfl, ?_⟩
  rw [tabD_self]
  refine iteF ?_
  refine ⟨_, rfl, t, rfl, ⟨_, SqL.of hT.1⟩, ?_⟩
  refine for_list (xs := ras.map V.ref) (fun i σ H' => ∃ o3 o4, σ = [some (.int k), some (.ref t), some (.ref t2), o3, o4] ∧ H' = H) ⟨_, _, rfl, rfl⟩ ?_ ?_ ?_
  · rintro i σ H' _ ⟨o3, o4, rfl, rfl⟩
    exact SqL.of hT.1
  · rintro i v σ H' hv ⟨o3, o4, rfl, rfl⟩
    obtain ⟨row, a, hrow, ha, rfl, hR⟩ := hT.row hv
    obtain ⟨us, hu, pu, lu⟩ := hR.len
    have o := ok row (List.mem_of_getElem? hrow)
    refine ⟨_, rfl, _, _, _, _, rfl, TyOf.lst hu, kit_ll K, _, rfl, iteF ?_⟩
    refine ⟨_, rfl, a, rfl, ⟨_, SqL.of hu⟩, ?_⟩
    refine for_list (xs := us) (fun i σ H2 => ∃ o4, σ = [some (.int k), some (.ref t), some (.ref t2), some (.ref a), o4] ∧ H2 = H') ⟨_, rfl, rfl⟩ ?_ ?_ ?_
    · rintro i σ H2 _ ⟨o4, rfl, rfl⟩
      exact SqL.of hu
    · rintro l x σ H2 hx ⟨o4, rfl, rfl⟩
      obtain ⟨n1, e1, r1⟩ := pd_right pu hx
      have on := o n1 (List.mem_of_getElem? e1)
      cases n1 with
      | q s1 =>
        obtain ⟨p1, rfl, h1⟩ := r1.q
        have k0 : k = 0 := on
        subst k0
        refine ⟨_, rfl, _, _, _, _, rfl, TyOf.tup h1, kit_tb K, _, rfl, iteF ?_⟩
        refine ⟨_, rfl, _, _, _, _, rfl, TyOf.tup h1, kit_tt K, _, rfl, rfl, rfl, _, rfl, iteF ?_⟩
        exact ⟨_, rfl, rfl⟩
      | z i1 =>
        rw [r1.z]
        have k0 : k ≠ 0 := on.1
        refine ⟨_, rfl, _, _, _, _, rfl, TyOf.int i1, kit_ib K, _, rfl, iteF ?_⟩
        refine ⟨_, rfl, _, _, _, _, rfl, TyOf.int i1, kit_it K, _, rfl, rfl, rfl, _, rfl, ?_⟩
        have e : decide (V.int k = V.int 0) = false := decide_eq_false fun e => k0 (V.int.inj e)
        rw [e]
        exact iteF ⟨_, rfl, rfl⟩
    · rintro σ H2 ⟨o4, rfl, rfl⟩
      exact ⟨_, _, rfl, rfl⟩
  · rintro σ H' ⟨o3, o4, rfl, rfl⟩
    exact q
/-! _law_right -/
theorem bb_ValueError : bootBuiltins "ValueError" = some (.type "ValueError") := by decide +kernel
noncomputable def sp_lright : Sp := fun vs H Q _ => ∃ (k : Int) (v : V), vs = [.int k, v] ∧ KindS k ∧ TxV v ∧ ∀ H', Same H H' → Q (.bl true) H'
theorem kn_lright {C B D1 D2 D3 : Addr} (X0 : ExT K mg C B D1 D2 D3) (D : Df K mg "_law_right" ["_law_kind_here", "_law_text_here"] s__law_right) (d__law_told : Kn P w K mg base "_law_told" 43 ["_law_kind_here", "_law_text_here"] sp_ltold) (d__law_is : Kn P w K mg base "_law_is" 41 ["_law_kind_here", "_law_found", "_law_due"] sp_lis) (d_read_table : Kx P w K mg base "read_table" 44 ["kind", "text"] (sp_rdt C)) (m_isinstance : mg "isinstance" = none) (m_ValueError : mg "ValueError" = none) : Kn P w K mg base "_law_right" 45 ["_law_kind_here", "_law_text_here"] sp_lright := by
  refine D.kn sc__law_right (fun vs H Q E h => ?_) (fun f cdv A outer s H vs Q E hr h => ?_)
  · obtain ⟨k, v, rfl, _⟩ := h; rfl
  obtain ⟨k, v, rfl, hk, tv, q⟩ := h
  have szl : sizeLine = 16777216 := by decide
  have m_MillError := X0.b
  have eb := X0.eb
  have m_NoText := X0.c.bound
  have m_NoName := X0.d2
  have m_NoRow := X0.d3
  have m_NoBack := X0.d1
  have hk' : k = 0 ∨ (1 < k ∧ k < 99) := hk.imp id fun h => ⟨h.lo, h.hi⟩
  refine ⟨_, (pss_cons (ps_set (i := 2) sc__law_right.nd rfl (.inl rfl) (pe_kA d__law_told hr (pa_cons (pv 0) (pa_cons (pv 1) pa_nil)))) (pss_cons (ps_set (i := 3) sc__law_right.nd rfl (.inl rfl) pe_non) (pss_cons (ps_set (i := 4) sc__law_right.nd rfl (.inl rfl) pe_non) (pss_cons (ps_tryS (i := 5) (j := 4) d_read_table (hr.mono (by decide)) rfl m_MillError eb rfl (pa_cons (pv 0) (pa_cons (pv 1) pa_nil)) sc__law_right.nd rfl rfl rfl (.inl rfl) (fun _ => (pss_one (ps_set (i := 3) sc__law_right.nd rfl (.inl rfl) (pv 5))))) (pss_cons (ps_if (pt_cmpR op_notN (pv 2) pe_non (nomark _)) (pss_one (ps_ret (pe_and (pe_cmpR op_isN (pv 3) pe_non (nomark _)) (pe_one (pe_kA d__law_is hr (pa_cons (pv 0) (pa_cons (pv 4) (pa_cons (pv 2) pa_nil)))))))) pss_nil) (pss_cons (ps_if (pt_val (pe_callB (call_isiTK (K := K) rfl) rfl m_isinstance bb_isinstance (pa_cons (pv 3) (pa_cons (pe_tup (pa_cons (pe_glob (v := .ref D1) rfl m_NoBack rfl) (pa_cons (pe_glob (v := .ref D2) rfl m_NoName rfl) (pa_cons (pe_glob (v := .ref D3) rfl m_NoRow rfl) pa_nil)))) pa_nil)))) (pss_one (ps_ret pe_bl)) pss_nil) (pss_one (ps_ret (pe_and (pe_callB (call_isiEK (K := K) rfl) rfl m_isinstance bb_isinstance (pa_cons (pv 3) (pa_cons (pe_glob (v := .ref C) rfl m_NoText rfl) pa_nil))) (pe_one (pe_callB (call_isiEK (K := K) rfl) rfl m_isinstance bb_isinstance (pa_cons (pv 3) (pa_cons (pe_ty rfl m_ValueError bb_ValueError) pa_nil))))))))))))), ?_⟩
  refine ⟨_, rfl, _, rfl, k, v, rfl, hk, tv, fun H1 g1 => ⟨fun x M t ras ev eT hT => ?_, fun hno => ?_⟩⟩
  · subst ev
    refine ⟨_, rfl, _, rfl, k, _, rfl, hk, tv, fun H2 g2 => ⟨fun x' M' t' ras' ev' eT' hT' => ?_, fun hno => ?_⟩⟩
    · cases V.str.inj ev'
      rw [rdT_tdT hk', eT] at eT'
      cases Option.some.inj eT'
      refine ⟨_, rfl, rfl, _, rfl, iteT ?_⟩
      refine ⟨_, rfl, rfl, _, rfl, iteT ?_⟩
      exact ⟨_, rfl, _, rfl, _, rfl, k, M, t', t, ras', ras, rfl, hT', hT.mono g2, tdT_ok hk eT, q H2 (g1.trans g2)⟩
    · have := hno x rfl
      rw [rdT_tdT hk', eT] at this
      cases this
  · refine ⟨_, rfl, _, rfl, k, v, rfl, hk, tv, fun H2 g2 => ⟨fun x' M' t' ras' ev' eT' hT' => ?_, fun hno2 => ⟨rfl, fun a ha => ?_⟩⟩⟩
    · rw [rdT_tdT hk', hno x' ev'] at eT'
      cases eT'
    refine ⟨_, rfl, ?_⟩
    have g3 := same_new ha (.ext (ExAt a C))
    have hx : upd H2 a (.ext (ExAt a C)) a = some (.ext (ExAt a C)) := upd_same
    generalize upd H2 a (.ext (ExAt a C)) = H3 at *
    refine ⟨_, rfl, rfl, _, rfl, iteF ?_⟩
    refine ⟨_, rfl, (by show 3 ≤ sizeLine; decide), fun p hp => ?_⟩
    have g4 := same_new hp (.tup [.ref D1, .ref D2, .ref D3])
    have hp4 : upd H3 p (.tup [.ref D1, .ref D2, .ref D3]) p = some (.tup ([D1, D2, D3].map V.ref)) := upd_same
    generalize upd H3 p (.tup [.ref D1, .ref D2, .ref D3]) = H4 at *
    have hx4 := g4 _ _ hx
    refine ⟨a, C, p, [D1, D2, D3], false, rfl, hx4, X0.ek, hp4, X0.no, _, rfl, iteF ?_⟩
    refine ⟨_, rfl, a, C, .ref C, .ref C, true, rfl, hx4, X0.ek, (fun u hu => hu), (by unfold PySem.W.kitOne; rw [if_pos (by simp)]), _, rfl, iteT ?_⟩
    exact ⟨_, rfl, a, C, .ty "ValueError", .type "ValueError", true, rfl, hx4, X0.ek, (fun u hu => hu), X0.ve, q H4 (((g1.trans g2).trans g3).trans g4)⟩
--SPLIT
/-! law -/
theorem str_mk {K : PySem.W.Frag} {mg : Str → Option Value} {h : Heap} {n x : Str} {t : Nat} (X : K.In h) (G : h.Ns mainGlobals mg) (a : PySem.W.nsIn K mainGlobals n = some (some (.str x t))) : ∃ t, mg n = some (.str x t) := ⟨t, PySem.W.mg_of X G a⟩
theorem int_mk {K : PySem.W.Frag} {mg : Str → Option Value} {h : Heap} {n : Str} {x : Int} {t : Nat} (X : K.In h) (G : h.Ns mainGlobals mg) (a : PySem.W.nsIn K mainGlobals n = some (some (.int x t))) : ∃ t, mg n = some (.int x t) := ⟨t, PySem.W.mg_of X G a⟩
theorem cutN {ns : List Int} (N : Nat) : cutV (ns.map V.int) none (some (N : Int)) = (ns.take N).map V.int := by rw [cutTo, List.map_take]
theorem ok_law {f : Addr} {fd : FuncData} (F : Fun K "law" "law" s_law f fd) (d__law_kind : Kn P w K mg base "_law_kind" 41 ["_law_drawn"] sp_kind) (d__law_mix : Kn P w K mg base "_law_mix" 1 ["_law_cell", "_law_j"] sp_mix) (d__law_table : Kn P w K mg base "_law_table" 42 ["_law_kind_here", "_law_cell"] sp_ltab) (d__law_text : Kn P w K mg base "_law_text" 43 ["_law_kind_here", "_law_table_here"] sp_ltext) (d_show_table : Kn P w K mg base "show_table" 43 ["kind", "table"] sp_sht) (d__law_right : Kn P w K mg base "_law_right" 45 ["_law_kind_here", "_law_text_here"] sp_lright) (d__law_spoiled : Kn P w K mg base "_law_spoiled" 42 ["_law_text_here", "_law_cell"] sp_lspo) (m_len : mg "len" = none) (m_isinstance : mg "isinstance" = none) (m_str : mg "str" = none) :
    FnOk P w K mg base CX0 46 f fd ["_law_script"] (spLaw K) := by
  refine F.ok sc_law (fun vs H Q E h => ?_) (fun cdv A outer s H vs Q E hr h => ?_)
  · obtain ⟨a, ns, rfl, _⟩ := h; rfl
  obtain ⟨a, ns, rfl, hS, h63, q⟩ := h
  have szl : sizeLine = 16777216 := by decide
  refine ⟨_, (pss_cons (ps_for PassesOwn.never rfl (pi_listK (K := K) rfl (pe_op op_cat (pe_slice (sl_listK (K := K) rfl) (pv 0) po_none (po_some pe_int)) (pe_lst (pa_cons pe_int pa_nil)))) (pg_name (i := 1) sc_law.nd rfl (.inl rfl)) (pss_cons (ps_set (i := 2) sc_law.nd rfl (.inl rfl) (pe_kA d__law_kind hr (pa_cons (pe_kA d__law_mix hr (pa_cons (pv 1) (pa_cons pe_int pa_nil))) pa_nil))) (pss_cons (ps_set (i := 3) sc_law.nd rfl (.inl rfl) (pe_kA d__law_table hr (pa_cons (pv 2) (pa_cons (pv 1) pa_nil)))) (pss_cons (ps_set (i := 4) sc_law.nd rfl (.inl rfl) (pe_kA d__law_text hr (pa_cons (pv 2) (pa_cons (pv 3) pa_nil)))) (pss_cons (ps_if (pt_cmpR op_lt (pe_callB (call_lenK (K := K) rfl) rfl m_len bb_len (pa_cons (pe_iA (ix_listK (K := K) rfl) (pv 3) pe_int) pa_nil)) pe_int (nomark _)) (pss_cons (ps_set (i := 5) sc_law.nd rfl (.inl rfl) (pe_kA d_show_table hr (pa_cons (pv 2) (pa_cons (pv 3) pa_nil)))) (pss_one (ps_if (PW.pt (pw_or (pt_not (pt_val (pe_callB (call_isiK (K := K) rfl) rfl m_isinstance bb_isinstance (pa_cons (pv 5) (pa_cons (pe_ty rfl m_str bb_str) pa_nil))))) (pw_or (pt_cmpR op_ne (pv 5) (pv 4) (nomark _)) (pw_or1 (pt_cmpR (op_neD hr) (pv 3) (pe_kA d__law_table hr (pa_cons (pv 2) (pa_cons (pv 1) pa_nil))) (nomark _)))))) (pss_one (ps_ret pe_bl)) pss_nil))) pss_nil) (pss_one (ps_if (PW.pt (pw_or (pt_not (pt_val (pe_kA d__law_right hr (pa_cons (pv 2) (pa_cons (pv 4) pa_nil))))) (pw_or1 (pt_not (pt_val (pe_kA d__law_right hr (pa_cons (pv 2) (pa_cons (pe_kA d__law_spoiled hr (pa_cons (pv 4) (pa_cons (pv 1) pa_nil))) pa_nil)))))))) (pss_one (ps_ret pe_bl)) pss_nil))))))) (pss_one (ps_ret pe_bl))), ?_⟩
  refine ⟨_, rfl, _, rfl, a, _, rfl, hS, fun p1 hp1 => ?_⟩
  refine ⟨(by show 1 ≤ sizeLine; decide), fun p2 hp2 => ?_⟩
  have n12 : p1 ≠ p2 := fun e => by rw [e, upd_same] at hp2; cases hp2
  rw [show ((30 : Int)) = ((30 : Nat) : Int) from rfl, cutN 30] at *
  refine ⟨p1, p2, _, _, rfl, rfl, (by rw [upd_ne n12]; exact upd_same), upd_same, ?_, fun p3 hp3 => ?_⟩
  · rw [List.length_map, List.length_take]; show min 30 ns.length + 1 ≤ sizeLine; (first | lia | omega)
  have e3 : (ns.take 30).map V.int ++ [V.int 0] = (ns.take 30 ++ [0]).map V.int := by simp
  rw [e3]
  refine ⟨p3, rfl, ⟨_, SqL.of upd_same⟩, ?_⟩
  generalize ns.take 30 ++ [0] = cs
  refine for_list (xs := cs.map V.int) (fun i σ H' => ∃ o1 o2 o3 o4 o5, σ = [some (.ref a), o1, o2, o3, o4, o5] ∧ H' p3 = some (.lst (cs.map V.int))) ⟨_, _, _, _, _, rfl, upd_same⟩ ?_ ?_ ?_
  · rintro i σ H' _ ⟨o1, o2, o3, o4, o5, rfl, h⟩
    exact SqL.of h
  rotate_left
  · rintro σ H' ⟨o1, o2, o3, o4, o5, rfl, h⟩
    exact q H'
  rintro i x σ H0 hx ⟨o1, o2, o3, o4, o5, rfl, h⟩
  rw [List.getElem?_map] at hx
  obtain ⟨c, _, rfl⟩ := Option.map_eq_some_iff.mp hx
  clear hx
  refine ⟨_, rfl, c, 1, rfl, (by decide), (by decide), _, rfl, fun k hk => ?_⟩
  refine ⟨_, rfl, _, rfl, k, c, rfl, hk, fun t ras H1 g1 T1 => ?_⟩
  obtain ⟨⟨r1, r13⟩, c1, c13⟩ := rc_bd c
  have lT := tab_len k c
  have okT' : ∀ r ∈ tabF k c, r.length ≤ 13 ∧ ∀ x ∈ r, x.ok k ∧ SmN x := fun r hr => ⟨by rw [tab_row hr]; (first | lia | omega), fun x hx => tab_num hk hr hx⟩
  have h1 := g1 _ _ h
  have lr := pd_len T1.2
  have hrow0 : ∃ r0, (tabF k c)[0]? = some r0 := ⟨_, List.getElem?_eq_getElem (by rw [lT]; (first | lia | omega))⟩
  obtain ⟨r0, er0⟩ := hrow0
  generalize eM : tabF k c = M at *
  refine ⟨_, rfl, _, rfl, k, M, t, ras, rfl, T1, okT', (by (first | lia | omega)), fun y H2 g2 hy => ?_⟩
  have ly : y.length ≤ 10000 := by rw [← cl_len, hy]; exact Nat.le_trans (shT_len (fun r hr => ⟨(okT' r hr).1, fun x hx => ((okT' r hr).2 x hx).2⟩) (by (first | lia | omega))) (by decide)
  have T2 := T1.mono g2
  have h2 := g2 _ _ h1
  obtain ⟨a0, ea0, hr0⟩ := pd_left T2.2 er0
  obtain ⟨us0, hu0, pu0, lu0⟩ := hr0.len
  refine ⟨_, rfl, t, _, _, .ref a0, rfl, rfl, SqL.of T2.1, atI_nat (j := 0) (by rw [List.getElem?_map, ea0]; rfl), a0, _, rfl, .inl (SqL.of hu0), _, _, rfl, rfl, _, rfl, ?_⟩
  refine ite2 (fun _ => ?_) (fun _ => ?_)
  · refine ⟨_, rfl, _, rfl, k, M, t, ras, rfl, T2, okT', (by (first | lia | omega)), fun z H3 g3 hz => ?_⟩
    have ez : z = y := cl_inj (hz.trans hy.symm)
    subst ez
    refine ⟨_, rfl, _, _, _, _, rfl, TyOf.str z, kit_sy K, _, rfl, iteF ?_⟩
    refine ⟨_, rfl, _, rfl, rfl, _, rfl, ?_⟩
    rw [decide_eq_true rfl]
    refine iteF ?_
    refine ⟨_, rfl, _, rfl, _, rfl, k, c, rfl, hk, fun t4 ras4 H4 g4 T4 => ?_⟩
    rw [eM] at T4
    refine ⟨_, _, (T2.mono (g3.trans g4)).rp, T4.rp, tabD_lay _, tabD_lay _, Nat.le_trans (Nat.min_le_left _ _) (Nat.le_trans (tabD_depth _) (by decide)), _, rfl, ?_⟩
    rw [tabD_self]
    refine iteF ?_
    refine ⟨_, rfl, _, rfl, k, _, rfl, hk, .inl ⟨z, rfl, by (first | lia | omega)⟩, fun H5 g5 => ⟨_, rfl, iteF ?_⟩⟩
    refine ⟨_, rfl, _, rfl, _, rfl, z, c, rfl, ly, fun v H6 g6 tv => ⟨k, v, rfl, hk, tv, fun H7 g7 => ⟨_, rfl, iteF ?_⟩⟩⟩
    exact ⟨_, _, _, _, _, rfl, (((((g3.trans g4).trans g5).trans g6).trans g7) _ _ h2)⟩
  · refine ⟨_, rfl, _, rfl, k, _, rfl, hk, .inl ⟨y, rfl, by (first | lia | omega)⟩, fun H5 g5 => ⟨_, rfl, iteF ?_⟩⟩
    refine ⟨_, rfl, _, rfl, _, rfl, y, c, rfl, ly, fun v H6 g6 tv => ⟨k, v, rfl, hk, tv, fun H7 g7 => ⟨_, rfl, iteF ?_⟩⟩⟩
    exact ⟨_, _, _, _, _, rfl, (((g5.trans g6).trans g7) _ _ h2)⟩
--SPLIT
end
end KL
open PySem PySem.W PyProof.Rows
set_option maxRecDepth 100000 in
set_option maxHeartbeats 0 in
theorem PySem.Challenge.cw_steermill_k91_tables_as_texts_holds : PySem.Challenge.rw_steermill_k91_tables_as_texts.Holds := by
  w_on; o_law; k_head; (case hw => w_witness2)
  k_fill
  refine L2.walk (l := PySem.Challenge.rw_steermill_k91_tables_as_texts) 46 rfl rfl ⟨rfl, by decide, by decide, rfl⟩ (by decide +kernel) (fun w h Y => PySem.W.kIn_of Y) ?F
  case F =>
    intro w mg fa h KX G hmg
    have df_common_divisor : L2.Df (L2.KOf KX) mg "common_divisor" ["one", "other"] KL.s_common_divisor := by
      dsimp only [L2.KOf]
      refine' L2.df_mk KX G ?a ?l ?c ?k ?b
      (case a => k_is); (case l => k_is); (case c => k_is); (case k => k_is)
      (case b => exact fun _ _ _ _ _ _ us hl => L2.bind2 (fun _ _ => rfl) us hl)
    have df_fraction : L2.Df (L2.KOf KX) mg "fraction" ["top", "bottom"] KL.s_fraction := by
      dsimp only [L2.KOf]
      refine' L2.df_mk KX G ?a ?l ?c ?k ?b
      (case a => k_is); (case l => k_is); (case c => k_is); (case k => k_is)
      (case b => exact fun _ _ _ _ _ _ us hl => L2.bind2 (fun _ _ => rfl) us hl)
    have df_number : L2.Df (L2.KOf KX) mg "number" ["kind", "whole"] KL.s_number := by
      dsimp only [L2.KOf]
      refine' L2.df_mk KX G ?a ?l ?c ?k ?b
      (case a => k_is); (case l => k_is); (case c => k_is); (case k => k_is)
      (case b => exact fun _ _ _ _ _ _ us hl => L2.bind2 (fun _ _ => rfl) us hl)
    have df_show_whole : L2.Df (L2.KOf KX) mg "show_whole" ["whole"] KL.s_show_whole := by
      dsimp only [L2.KOf]
      refine' L2.df_mk KX G ?a ?l ?c ?k ?b
      (case a => k_is); (case l => k_is); (case c => k_is); (case k => k_is)
      (case b => exact fun _ _ _ _ _ _ us hl => L2.bind1 (fun _ => rfl) us hl)
    have df_show_number : L2.Df (L2.KOf KX) mg "show_number" ["kind", "told"] KL.s_show_number := by
      dsimp only [L2.KOf]
      refine' L2.df_mk KX G ?a ?l ?c ?k ?b
      (case a => k_is); (case l => k_is); (case c => k_is); (case k => k_is)
      (case b => exact fun _ _ _ _ _ _ us hl => L2.bind2 (fun _ _ => rfl) us hl)
    have df_show_table : L2.Df (L2.KOf KX) mg "show_table" ["kind", "table"] KL.s_show_table := by
      dsimp only [L2.KOf]
      refine' L2.df_mk KX G ?a ?l ?c ?k ?b
      (case a => k_is); (case l => k_is); (case c => k_is); (case k => k_is)
      (case b => exact fun _ _ _ _ _ _ us hl => L2.bind2 (fun _ _ => rfl) us hl)
    have df_read_whole : L2.Df (L2.KOf KX) mg "read_whole" ["word"] KL.s_read_whole := by
      dsimp only [L2.KOf]
      refine' L2.df_mk KX G ?a ?l ?c ?k ?b
      (case a => k_is); (case l => k_is); (case c => k_is); (case k => k_is)
      (case b => exact fun _ _ _ _ _ _ us hl => L2.bind1 (fun _ => rfl) us hl)
    have df_read_fraction : L2.Df (L2.KOf KX) mg "read_fraction" ["word"] KL.s_read_fraction := by
      dsimp only [L2.KOf]
      refine' L2.df_mk KX G ?a ?l ?c ?k ?b
      (case a => k_is); (case l => k_is); (case c => k_is); (case k => k_is)
      (case b => exact fun _ _ _ _ _ _ us hl => L2.bind1 (fun _ => rfl) us hl)
    have df_read_number : L2.Df (L2.KOf KX) mg "read_number" ["kind", "word"] KL.s_read_number := by
      dsimp only [L2.KOf]
      refine' L2.df_mk KX G ?a ?l ?c ?k ?b
      (case a => k_is); (case l => k_is); (case c => k_is); (case k => k_is)
      (case b => exact fun _ _ _ _ _ _ us hl => L2.bind2 (fun _ _ => rfl) us hl)
    have df_read_table : L2.Df (L2.KOf KX) mg "read_table" ["kind", "text"] KL.s_read_table := by
      dsimp only [L2.KOf]
      refine' L2.df_mk KX G ?a ?l ?c ?k ?b
      (case a => k_is); (case l => k_is); (case c => k_is); (case k => k_is)
      (case b => exact fun _ _ _ _ _ _ us hl => L2.bind2 (fun _ _ => rfl) us hl)
    have df__law_mix : L2.Df (L2.KOf KX) mg "_law_mix" ["_law_cell", "_law_j"] KL.s__law_mix := by
      dsimp only [L2.KOf]
      refine' L2.df_mk KX G ?a ?l ?c ?k ?b
      (case a => k_is); (case l => k_is); (case c => k_is); (case k => k_is)
      (case b => exact fun _ _ _ _ _ _ us hl => L2.bind2 (fun _ _ => rfl) us hl)
    have df__law_divisor : L2.Df (L2.KOf KX) mg "_law_divisor" ["_law_one", "_law_other"] KL.s__law_divisor := by
      dsimp only [L2.KOf]
      refine' L2.df_mk KX G ?a ?l ?c ?k ?b
      (case a => k_is); (case l => k_is); (case c => k_is); (case k => k_is)
      (case b => exact fun _ _ _ _ _ _ us hl => L2.bind2 (fun _ _ => rfl) us hl)
    have df__law_is_prime : L2.Df (L2.KOf KX) mg "_law_is_prime" ["_law_whole"] KL.s__law_is_prime := by
      dsimp only [L2.KOf]
      refine' L2.df_mk KX G ?a ?l ?c ?k ?b
      (case a => k_is); (case l => k_is); (case c => k_is); (case k => k_is)
      (case b => exact fun _ _ _ _ _ _ us hl => L2.bind1 (fun _ => rfl) us hl)
    have df__law_kind : L2.Df (L2.KOf KX) mg "_law_kind" ["_law_drawn"] KL.s__law_kind := by
      dsimp only [L2.KOf]
      refine' L2.df_mk KX G ?a ?l ?c ?k ?b
      (case a => k_is); (case l => k_is); (case c => k_is); (case k => k_is)
      (case b => exact fun _ _ _ _ _ _ us hl => L2.bind1 (fun _ => rfl) us hl)
    have df__law_number : L2.Df (L2.KOf KX) mg "_law_number" ["_law_kind_here", "_law_cell", "_law_j"] KL.s__law_number := by
      dsimp only [L2.KOf]
      refine' L2.df_mk KX G ?a ?l ?c ?k ?b
      (case a => k_is); (case l => k_is); (case c => k_is); (case k => k_is)
      (case b => exact fun _ _ _ _ _ _ us hl => L2.bind3 (fun _ _ _ => rfl) us hl)
    have df__law_table : L2.Df (L2.KOf KX) mg "_law_table" ["_law_kind_here", "_law_cell"] KL.s__law_table := by
      dsimp only [L2.KOf]
      refine' L2.df_mk KX G ?a ?l ?c ?k ?b
      (case a => k_is); (case l => k_is); (case c => k_is); (case k => k_is)
      (case b => exact fun _ _ _ _ _ _ us hl => L2.bind2 (fun _ _ => rfl) us hl)
    have df__law_text : L2.Df (L2.KOf KX) mg "_law_text" ["_law_kind_here", "_law_table_here"] KL.s__law_text := by
      dsimp only [L2.KOf]
      refine' L2.df_mk KX G ?a ?l ?c ?k ?b
      (case a => k_is); (case l => k_is); (case c => k_is); (case k => k_is)
      (case b => exact fun _ _ _ _ _ _ us hl => L2.bind2 (fun _ _ => rfl) us hl)
    have df__law_odd : L2.Df (L2.KOf KX) mg "_law_odd" ["_law_cell"] KL.s__law_odd := by
      dsimp only [L2.KOf]
      refine' L2.df_mk KX G ?a ?l ?c ?k ?b
      (case a => k_is); (case l => k_is); (case c => k_is); (case k => k_is)
      (case b => exact fun _ _ _ _ _ _ us hl => L2.bind1 (fun _ => rfl) us hl)
    have df__law_spoiled : L2.Df (L2.KOf KX) mg "_law_spoiled" ["_law_text_here", "_law_cell"] KL.s__law_spoiled := by
      dsimp only [L2.KOf]
      refine' L2.df_mk KX G ?a ?l ?c ?k ?b
      (case a => k_is); (case l => k_is); (case c => k_is); (case k => k_is)
      (case b => exact fun _ _ _ _ _ _ us hl => L2.bind2 (fun _ _ => rfl) us hl)
    have df__law_figures : L2.Df (L2.KOf KX) mg "_law_figures" ["_law_word"] KL.s__law_figures := by
      dsimp only [L2.KOf]
      refine' L2.df_mk KX G ?a ?l ?c ?k ?b
      (case a => k_is); (case l => k_is); (case c => k_is); (case k => k_is)
      (case b => exact fun _ _ _ _ _ _ us hl => L2.bind1 (fun _ => rfl) us hl)
    have df__law_told_number : L2.Df (L2.KOf KX) mg "_law_told_number" ["_law_kind_here", "_law_word"] KL.s__law_told_number := by
      dsimp only [L2.KOf]
      refine' L2.df_mk KX G ?a ?l ?c ?k ?b
      (case a => k_is); (case l => k_is); (case c => k_is); (case k => k_is)
      (case b => exact fun _ _ _ _ _ _ us hl => L2.bind2 (fun _ _ => rfl) us hl)
    have df__law_told : L2.Df (L2.KOf KX) mg "_law_told" ["_law_kind_here", "_law_text_here"] KL.s__law_told := by
      dsimp only [L2.KOf]
      refine' L2.df_mk KX G ?a ?l ?c ?k ?b
      (case a => k_is); (case l => k_is); (case c => k_is); (case k => k_is)
      (case b => exact fun _ _ _ _ _ _ us hl => L2.bind2 (fun _ _ => rfl) us hl)
    have df__law_is : L2.Df (L2.KOf KX) mg "_law_is" ["_law_kind_here", "_law_found", "_law_due"] KL.s__law_is := by
      dsimp only [L2.KOf]
      refine' L2.df_mk KX G ?a ?l ?c ?k ?b
      (case a => k_is); (case l => k_is); (case c => k_is); (case k => k_is)
      (case b => exact fun _ _ _ _ _ _ us hl => L2.bind3 (fun _ _ _ => rfl) us hl)
    have df__law_right : L2.Df (L2.KOf KX) mg "_law_right" ["_law_kind_here", "_law_text_here"] KL.s__law_right := by
      dsimp only [L2.KOf]
      refine' L2.df_mk KX G ?a ?l ?c ?k ?b
      (case a => k_is); (case l => k_is); (case c => k_is); (case k => k_is)
      (case b => exact fun _ _ _ _ _ _ us hl => L2.bind2 (fun _ _ => rfl) us hl)
    have m_ValueError : mg "ValueError" = none := by
      refine' PySem.W.mg_none_of KX G ?z
      (case z => k_is)
    have m_abs : mg "abs" = none := by
      refine' PySem.W.mg_none_of KX G ?z
      (case z => k_is)
    have m_any : mg "any" = none := by
      refine' PySem.W.mg_none_of KX G ?z
      (case z => k_is)
    have m_bool : mg "bool" = none := by
      refine' PySem.W.mg_none_of KX G ?z
      (case z => k_is)
    have m_int : mg "int" = none := by
      refine' PySem.W.mg_none_of KX G ?z
      (case z => k_is)
    have m_isinstance : mg "isinstance" = none := by
      refine' PySem.W.mg_none_of KX G ?z
      (case z => k_is)
    have m_len : mg "len" = none := by
      refine' PySem.W.mg_none_of KX G ?z
      (case z => k_is)
    have m_list : mg "list" = none := by
      refine' PySem.W.mg_none_of KX G ?z
      (case z => k_is)
    have m_range : mg "range" = none := by
      refine' PySem.W.mg_none_of KX G ?z
      (case z => k_is)
    have m_str : mg "str" = none := by
      refine' PySem.W.mg_none_of KX G ?z
      (case z => k_is)
    have m_tuple : mg "tuple" = none := by
      refine' PySem.W.mg_none_of KX G ?z
      (case z => k_is)
    have dl : ∃ fd : FuncData, L2.Fun (L2.KOf KX) "law" "law" KL.s_law fa fd ∧ ∀ (s : Shared) (v : Value), BindsTo s fd ⟨[v], []⟩ [("_law_script", v)] := by
      dsimp only [L2.KOf]
      refine' L2.law_mk KX G hmg ?a ?l ?c ?k ?b
      (case a => k_is); (case l => k_is); (case c => k_is); (case k => k_is)
      (case b => exact fun _ _ _ _ _ _ _ => rfl)
    obtain ⟨fd, FL, hb⟩ := dl
    refine ⟨fd, hb, fun base _ _ hS => ?_⟩
    have hP : (PySem.Challenge.rw_steermill_k91_tables_as_texts).prog.given.tree = none := rfl
    have xs0 : ∃ C B D1 D2 D3, L2.ExT (L2.KOf KX) mg C B D1 D2 D3 := by
      dsimp only [L2.KOf]
      refine' L2.ext_mk KX G ?a ?a1 ?a2 ?a3 ?a4 ?b ?k1 ?k2 ?k3 ?k4 ?k5 ?k6 ?k7 ?e1 ?e2 ?e3 ?no ?ve
      (case a => k_is); (case a1 => k_is); (case a2 => k_is); (case a3 => k_is); (case a4 => k_is)
      (case b => k_exc)
      (case k1 => k_is); (case k2 => k_is); (case k3 => k_is); (case k4 => k_is); (case k5 => k_is); (case k6 => k_is); (case k7 => k_is)
      (case e1 => k_is); (case e2 => k_is); (case e3 => k_is)
      (case no => kit_is); (case ve => kit_is)
    obtain ⟨C0, B0, D10, D20, D30, X0⟩ := xs0
    obtain ⟨t_BETWEEN_ROWS, m_BETWEEN_ROWS⟩ : ∃ t, mg "BETWEEN_ROWS" = some (.str "; " t) := by
      refine' KL.str_mk KX G ?a
      (case a => k_is)
    obtain ⟨t_BETWEEN_NUMBERS, m_BETWEEN_NUMBERS⟩ : ∃ t, mg "BETWEEN_NUMBERS" = some (.str " " t) := by
      refine' KL.str_mk KX G ?a
      (case a => k_is)
    obtain ⟨t_STROKE, m_STROKE⟩ : ∃ t, mg "STROKE" = some (.str "/" t) := by
      refine' KL.str_mk KX G ?a
      (case a => k_is)
    obtain ⟨t_FIGURES, m_FIGURES⟩ : ∃ t, mg "FIGURES" = some (.str "0123456789" t) := by
      refine' KL.str_mk KX G ?a
      (case a => k_is)
    obtain ⟨t_MOST_FIGURES, m_MOST_FIGURES⟩ : ∃ t, mg "MOST_FIGURES" = some (.int 20 t) := by
      refine' KL.int_mk KX G ?a
      (case a => k_is)
    obtain ⟨t_MOST_ROWS, m_MOST_ROWS⟩ : ∃ t, mg "MOST_ROWS" = some (.int 12 t) := by
      refine' KL.int_mk KX G ?a
      (case a => k_is)
    obtain ⟨t_MOST_COLUMNS, m_MOST_COLUMNS⟩ : ∃ t, mg "MOST_COLUMNS" = some (.int 12 t) := by
      refine' KL.int_mk KX G ?a
      (case a => k_is)
    have a1 := KL.kn_cd (P := (PySem.Challenge.rw_steermill_k91_tables_as_texts).prog) (w := w) (base := base) df_common_divisor m_abs
    have a2 := KL.kn_fraction hP hS df_fraction a1
    have a4 := KL.kn_number (P := (PySem.Challenge.rw_steermill_k91_tables_as_texts).prog) (w := w) (base := base) df_number
    have a5 := KL.kn_shw (P := (PySem.Challenge.rw_steermill_k91_tables_as_texts).prog) (w := w) (base := base) hP hS df_show_whole m_abs m_str
    have a6 := KL.kn_shn df_show_number a5 m_STROKE
    have a7 := KL.kn_sht df_show_table a6 m_BETWEEN_ROWS m_BETWEEN_NUMBERS
    have a8 := KL.kn_rdw (P := (PySem.Challenge.rw_steermill_k91_tables_as_texts).prog) (w := w) (base := base) X0.c df_read_whole m_FIGURES m_MOST_FIGURES m_len m_any m_int
    have a9 := KL.kn_rdf X0.c df_read_fraction a8 a2 m_STROKE
    have a10 := KL.kn_rdn X0.c df_read_number a9 a8 a4 a6
    have a11 := KL.kn_rdt X0.c df_read_table a10 m_BETWEEN_ROWS m_BETWEEN_NUMBERS m_MOST_ROWS m_MOST_COLUMNS m_len m_any m_isinstance m_str
    have b2 := KL.kn_is_prime (P := (PySem.Challenge.rw_steermill_k91_tables_as_texts).prog) (w := w) (base := base) df__law_is_prime
    have b3 := KL.kn_kind hP hS df__law_kind b2
    have b4 := KL.kn_div (P := (PySem.Challenge.rw_steermill_k91_tables_as_texts).prog) (w := w) (base := base) df__law_divisor m_abs
    have b5 := KL.kn_mix (P := (PySem.Challenge.rw_steermill_k91_tables_as_texts).prog) (w := w) (base := base) df__law_mix
    have b6 := KL.kn_lnum hP hS df__law_number b5 b4 m_int
    have b7 := KL.kn_ltab df__law_table b5 b6 m_range
    have b8 := KL.kn_ltext (P := (PySem.Challenge.rw_steermill_k91_tables_as_texts).prog) (w := w) (base := base) hP hS df__law_text m_str
    have b9 := KL.kn_lfig (P := (PySem.Challenge.rw_steermill_k91_tables_as_texts).prog) (w := w) (base := base) hP hS df__law_figures m_len m_int
    have b10 := KL.kn_lodd df__law_odd b5
    have b11 := KL.kn_lspo df__law_spoiled b5 b10 m_len
    have b12 := KL.kn_ltdn hP hS df__law_told_number b9 b4 m_len m_int
    have b13 := KL.kn_ltold df__law_told b12 m_len m_isinstance m_str
    have b14 := KL.kn_lis (P := (PySem.Challenge.rw_steermill_k91_tables_as_texts).prog) (w := w) (base := base) df__law_is m_isinstance m_list m_bool m_tuple
    have b15 := KL.kn_lright X0 df__law_right b13 b14 a11 m_isinstance m_ValueError
    exact KL.ok_law FL b3 b5 b7 b8 a7 b15 b11 m_len m_isinstance m_str
#print axioms PySem.Challenge.cw_steermill_k91_tables_as_texts_holds
