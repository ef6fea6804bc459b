import PyProof.Rows.All
import Wide.All
import OpenK.AllK
import Wide.FinOn
import Lean
import PyProof.EqAt
import PyProof.EqKinds
import PyProof.TupleCall
import PySem.Challenge.RW_steermill_k06_backs
set_option Elab.async false
set_option linter.all false
set_option maxRecDepth 100000
/-! THE HAND LAYER, for ints, bools, texts, own classes, LISTS and tuples (index, slices, in, append, pop ..), calls, loops. Paste it whole ahead of your own text; what your proof does not reach may be deleted. -/
namespace L2
open PySem PySem.Spec PyProof.Rows

/-- a key: an int or a str -/
noncomputable abbrev Key := Sum Int Str
noncomputable def keyIs : Key → Value → Bool
  | .inl k, v => Value.isInt k v
  | .inr x, v => Value.isStrOf x v
noncomputable def keyH (w : World) : Key → Int
  | .inl k => hashInt k
  | .inr x => hashStr w x
theorem keyIs_shape : ∀ {k : Key} {v : Value}, keyIs k v = true → (∃ i t, k = Sum.inl i ∧ v = Value.int i t) ∨ (∃ x t, k = Sum.inr x ∧ v = Value.str x t)
  | .inl i, v, h => by
    obtain ⟨t, e⟩ := Value.isInt_shape (k := i) (v := v) h
    exact .inl ⟨i, t, rfl, e⟩
  | .inr x, v, h => by
    obtain ⟨t, e⟩ := Value.isStrOf_shape (x := x) (v := v) h
    exact .inr ⟨x, t, rfl, e⟩
theorem key_ll (a b : Int) : decide ((Sum.inl a : Key) = Sum.inl b) = (a == b) := by
  by_cases e : a = b
  · subst e; simp
  · have h : ¬ (Sum.inl a : Key) = Sum.inl b := fun q => e (Sum.inl.inj q)
    rw [decide_eq_false h]
    exact (beq_eq_false_iff_ne.mpr e).symm
theorem key_rr (a b : Str) : decide ((Sum.inr a : Key) = Sum.inr b) = decide (a = b) := by
  by_cases e : a = b
  · subst e; simp
  · have h : ¬ (Sum.inr a : Key) = Sum.inr b := fun q => e (Sum.inr.inj q)
    rw [decide_eq_false h, decide_eq_false e]
theorem key_lr (a : Int) (b : Str) : decide ((Sum.inl a : Key) = Sum.inr b) = false := decide_eq_false (fun q => nomatch q)
theorem key_rl (a : Str) (b : Int) : decide ((Sum.inr a : Key) = Sum.inl b) = false := decide_eq_false (fun q => nomatch q)

noncomputable def mixKind (prog : Program) (w : World) : PySem.KeyKind prog w Key where
  is := keyIs
  hash := keyH w
  inj := fun v a b ha hb => by
    rcases keyIs_shape ha with ⟨i, t, rfl, rfl⟩ | ⟨x, t, rfl, rfl⟩
    · rcases keyIs_shape hb with ⟨j, u, rfl, e⟩ | ⟨y, u, rfl, e⟩
      · injection e with e1 _; rw [e1]
      · exact nomatch e
    · rcases keyIs_shape hb with ⟨j, u, rfl, e⟩ | ⟨y, u, rfl, e⟩
      · exact nomatch e
      · injection e with e1 _; rw [e1]
  byValue := fun k v h => by
    rcases keyIs_shape h with ⟨i, t, rfl, rfl⟩ | ⟨x, t, rfl, rfl⟩ <;> rfl
  pyHash := fun hv h => by
    rcases keyIs_shape hv with ⟨i, t, rfl, rfl⟩ | ⟨x, t, rfl, rfl⟩
    · exact wpAny_pyHash_int h
    · exact wpAny_pyHash_str h
  eqBool := fun hu hv h => by
    rcases keyIs_shape hu with ⟨i, t, rfl, rfl⟩ | ⟨x, t, rfl, rfl⟩
    · rcases keyIs_shape hv with ⟨j, u, rfl, rfl⟩ | ⟨y, u, rfl, rfl⟩
      · rw [key_ll] at h; exact wpAny_eqBool_int h
      · rw [key_lr] at h; exact SeqAt.EqAt.int_str i t y u _ _ _ _ h
    · rcases keyIs_shape hv with ⟨j, u, rfl, rfl⟩ | ⟨y, u, rfl, rfl⟩
      · rw [key_rl] at h; exact SeqAt.EqAt.str_int x t j u _ _ _ _ h
      · rw [key_rr] at h; exact wpAny_eqBool_str h
  «strs» := fun k x t v h => by
    rcases keyIs_shape h with ⟨i, u, rfl, e⟩ | ⟨y, u, rfl, e⟩
    · exact nomatch e
    · injection e with e1 _
      subst e1
      cases v <;> rfl

end L2

namespace L2
open PySem PySem.Spec PyProof.Rows

/-- a value, without the heap -/
inductive V where
  | non | bl (b : Bool) | int (i : Int) | str (x : Str) | byt (b : Array UInt8) | flt (b : UInt64) | ref (a : Addr) | ty (n : String)
  deriving DecidableEq

noncomputable def RelV : V → Value → Prop
  | .non, u => u = Value.none
  | .bl b, u => u = Value.bool b
  | .int i, u => ∃ t, u = Value.int i t
  | .str x, u => ∃ t, u = Value.str x t
  | .byt b, u => ∃ t, u = Value.bytes b t
  | .flt b, u => ∃ t, u = Value.float b t
  | .ref a, u => u = Value.ref a
  | .ty n, u => u = Value.type n

noncomputable abbrev Vals : List V → List Value → Prop := Paired RelV
theorem Vals.length {xs : List V} {us : List Value} (r : Vals xs us) : xs.length = us.length := Paired.length r
theorem Vals.get : ∀ {xs : List V} {us : List Value} {i : Nat} {x : V}, Vals xs us → xs[i]? = some x → ∃ u, us[i]? = some u ∧ RelV x u
  | _, _, _, _, .nil, e => by simp at e
  | _, _, 0, _, .cons r _, e => by simp at e; subst e; exact ⟨_, rfl, r⟩
  | _, _, i + 1, x, .cons _ t, e => by
    obtain ⟨u, h1, h2⟩ := Vals.get (i := i) (x := x) t (by simpa using e)
    exact ⟨u, by simpa using h1, h2⟩
theorem Vals.set {x : V} {u : Value} (r : RelV x u) : ∀ {xs : List V} {us : List Value} (i : Nat), Vals xs us → Vals (xs.set i x) (us.set i u)
  | _, _, _, .nil => .nil
  | _, _, 0, .cons _ t => .cons r t
  | _, _, i + 1, .cons q t => .cons q (Vals.set r i t)
theorem Vals.append : ∀ {xs ys : List V} {us ws : List Value}, Vals xs us → Vals ys ws → Vals (xs ++ ys) (us ++ ws)
  | _, _, _, _, .nil, s => s
  | _, _, _, _, .cons r t, s => .cons r (Vals.append t s)
theorem Vals.take : ∀ {xs : List V} {us : List Value} (n : Nat), Vals xs us → Vals (xs.take n) (us.take n)
  | _, _, 0, _ => .nil
  | _, _, _ + 1, .nil => .nil
  | _, _, n + 1, .cons r t => .cons r (Vals.take n t)
theorem Vals.drop : ∀ {xs : List V} {us : List Value} (n : Nat), Vals xs us → Vals (xs.drop n) (us.drop n)
  | _, _, 0, r => r
  | _, _, _ + 1, .nil => .nil
  | _, _, n + 1, .cons _ t => Vals.drop n t
noncomputable def RelO : Option V → Option Value → Prop
  | some v, some u => RelV v u
  | none, none => True
  | _, _ => False
noncomputable def KV {κ : Type} : List (κ × V) → List (κ × Value) → Prop := Paired fun (p : κ × V) (q : κ × Value) => p.1 = q.1 ∧ RelV p.2 q.2

/-- a key of a dict (00_mix): an int or a text -/
noncomputable def kV : Key → V
  | .inl i => .int i
  | .inr x => .str x

/-- what stands at a tracked address -/
inductive HO where
  /-- a list -/
  | lst (xs : List V)
  /-- a tuple (never changes) -/
  | tup (xs : List V)
  /-- a dict whose keys are ints and texts; one whose keys are tuples of ints and texts (the empty one is both) -/
  | dK (kvs : List (Key × V)) | dT (kvs : List (List Key × V))
  /-- a set of ints: its members, its size -/
  | set (S : Int → Bool) (n : Nat)
  /-- an instance of the class at C, its dict at dx, its attributes -/
  | ins (C dx : Addr) (fs : List (Str × V))
  /-- the dict of the instance at x -/
  | own (x : Addr)
  /-- the dict of an exception -/
  | xd (fs : List (Str × V))
  /-- a bound method, f of x -/
  | met (f x : Addr)
  /-- a range object lo, lo + 1, .. below hi -/
  | rng (lo hi : Int)
  /-- a thing that is known to the object (the script; a dict while a loop walks it): read, never written while it is so -/
  | frz (o : Obj) (u : HO)
  /-- a code object's table -/
  | tbl (ps : Array Value)
  /-- any other thing, by what is true of its one object (a def of one's own: SetO a S n := HO.ext fun h => ..) -/
  | ext (φ : Heap → Prop)

noncomputable abbrev Hp := Addr → Option HO
noncomputable def upd (H : Hp) (a : Addr) (o : HO) : Hp := fun b => if b = a then some o else H b
theorem upd_same {H : Hp} {a : Addr} {o : HO} : upd H a o a = some o := by unfold upd; rw [if_pos rfl]
theorem upd_ne {H : Hp} {a b : Addr} {o : HO} (h : b ≠ a) : upd H a o b = H b := by unfold upd; rw [if_neg h]
theorem ne_of_none {H : Hp} {a b : Addr} {o : HO} (h : H a = some o) (h' : H b = none) : a ≠ b := by
  intro e; subst e; rw [h] at h'; cases h'

section
variable (P : Program) (w : World)
noncomputable def ObjOk (H : Hp) (h : Heap) (a : Addr) : HO → Prop
  | .lst xs => xs.length ≤ sizeLine ∧ ∃ (its : List Value) (n : Nat), Vals xs its ∧ h.get? a = some { cls := .type "list", data := .seq its.toArray n }
  | .tup xs => xs.length ≤ sizeLine ∧ ∃ its : List Value, Vals xs its ∧ IsTup h a its.toArray
  | .dK kvs => kvs.length ≤ sizeLine ∧ (a == sysModules) = false ∧ ∃ vs, KV kvs vs ∧ h.DictOf (mixKind P w) a vs
  | .dT kvs => kvs.length ≤ sizeLine ∧ (a == sysModules) = false ∧ ∃ xs : List (List Key × Addr × Value),
      Paired (fun (p : List Key × V) (q : List Key × Addr × Value) => p.1 = q.1 ∧ H q.2.1 = some (.tup (p.1.map kV)) ∧ RelV p.2 q.2.2) kvs xs ∧
      ∃ o es ep, h.get? a = some o ∧ o.ExactDict ∧ o.data = .dict es ep ∧ es.toList = xs.map (entryOfKey (tupleKind (mixKind P w))) ∧ (xs.map (·.1)).Nodup
  | .set S n => h.SetOf (intKind P w) a S n
  | .ins C dx fs => H dx = some (.own a) ∧ fs.length ≤ 1000 ∧ dx ≠ a ∧ h.get? a = some (PySem.W.instObj C dx) ∧
      ∃ mA, h.Ns1 dx mA ∧ (∀ f, RelO (fs.lookup f) (mA f)) ∧ PySem.Within mA (fs.map (·.1))
  | .own _ => ∃ o, h.get? a = some o
  | .xd fs => ∃ mA, h.Ns1 a mA ∧ ∀ f, RelO (fs.lookup f) (mA f)
  | .rng lo hi => ∃ t u v, h.get? a = some { cls := .type "range", data := .fields #[.int lo t, .int hi u, .int 1 v] }
  | .frz o u => h.get? a = some o ∧ ObjOk H h a u
  | .tbl ps => h.get? a = some { cls := .none, data := .fields ps }
  | .met f x => h.get? a = some (PySem.W.methodObj (.ref f) (.ref x))
  | .ext φ => φ h ∧ (∃ o, h.get? a = some o) ∧ ∀ h1 h2 : Heap, φ h1 → (∀ o, h1.get? a = some o → h2.get? a = some o) → φ h2
/-- the abstract heap is held -/
noncomputable def HOk (H : Hp) (h : Heap) : Prop := ∀ a o, H a = some o → ObjOk P w H h a o
end

section
variable {P : Program} {w : World} {H H' : Hp} {h h' : Heap} {a : Addr} {o : HO}
theorem ObjOk.lt (x : ObjOk P w H h a o) : a < h.objs.size := by
  cases o with
  | lst xs => obtain ⟨_, _, _, _, e⟩ := x; exact Heap.lt_size e
  | tup xs => obtain ⟨_, _, _, p⟩ := x; exact p.lt
  | dK kvs => obtain ⟨_, _, _, _, o, _, _, e, _⟩ := x; exact Heap.lt_size e
  | dT kvs => obtain ⟨_, _, _, _, o, _, _, e, _⟩ := x; exact Heap.lt_size e
  | set S n => obtain ⟨o, _, _, _, e, _⟩ := x; exact Heap.lt_size e
  | ins C dx fs => obtain ⟨_, _, _, e, _⟩ := x; exact Heap.lt_size e
  | own y => obtain ⟨_, e⟩ := x; exact Heap.lt_size e
  | xd fs => obtain ⟨_, ⟨_, _, _, e, _⟩, _⟩ := x; exact Heap.lt_size e
  | rng lo hi => obtain ⟨_, _, _, e⟩ := x; exact Heap.lt_size e
  | frz ob u => obtain ⟨e, _⟩ := x; exact Heap.lt_size e
  | tbl ps => exact Heap.lt_size (show h.get? a = some _ from x)
  | met f y => exact Heap.lt_size (show h.get? a = some _ from x)
  | ext φ => obtain ⟨_, ⟨_, e⟩, _⟩ := x; exact Heap.lt_size e
theorem Paired.mapP {α β : Type} {F G : α → β → Prop} : ∀ {l₁ : List α} {l₂ : List β}, Paired F l₁ l₂ → (∀ a b, F a b → G a b) → Paired G l₁ l₂
  | _, _, .nil, _ => .nil
  | _, _, .cons r t, f => .cons (f _ _ r) (Paired.mapP t f)
/-- what an object's description leans on: its own object, its own dict, the tuples -/
theorem ObjOk.stay (x : ObjOk P w H h a o) (k : ∀ b u, (b = a ∨ H b = some (.own a)) → h.get? b = some u → h'.get? b = some u)
    (ho : ∀ b, H b = some (.own a) → H' b = some (.own a)) (ht : ∀ b xs, H b = some (.tup xs) → H' b = some (.tup xs)) : ObjOk P w H' h' a o := by
  induction o with
  | lst xs => obtain ⟨z, its, n, r, e⟩ := x; exact ⟨z, its, n, r, k _ _ (.inl rfl) e⟩
  | tup xs => obtain ⟨z, its, r, ob, e, c⟩ := x; exact ⟨z, its, r, ob, k _ _ (.inl rfl) e, c⟩
  | dK kvs => obtain ⟨z, y, vs, r, ob, es, ep, e, c⟩ := x; exact ⟨z, y, vs, r, ob, es, ep, k _ _ (.inl rfl) e, c⟩
  | dT kvs =>
    obtain ⟨z, y, xs, r, ob, es, ep, e, c⟩ := x
    exact ⟨z, y, xs, Paired.mapP r fun p q z => ⟨z.1, ht _ _ z.2.1, z.2.2⟩, ob, es, ep, k _ _ (.inl rfl) e, c⟩
  | set S n => obtain ⟨ob, es, ep, t, e, c⟩ := x; exact ⟨ob, es, ep, t, k _ _ (.inl rfl) e, c⟩
  | ins C dx fs =>
    obtain ⟨d, z, ne, e, mA, ⟨od, es, ep, e2, c⟩, r⟩ := x
    exact ⟨ho _ d, z, ne, k _ _ (.inl rfl) e, mA, ⟨od, es, ep, k _ _ (.inr d) e2, c⟩, r⟩
  | own y => obtain ⟨ob, e⟩ := x; exact ⟨ob, k _ _ (.inl rfl) e⟩
  | xd fs => obtain ⟨mA, ⟨od, es, ep, e, c⟩, r⟩ := x; exact ⟨mA, ⟨od, es, ep, k _ _ (.inl rfl) e, c⟩, r⟩
  | rng lo hi => obtain ⟨t, u, v, e⟩ := x; exact ⟨t, u, v, k _ _ (.inl rfl) e⟩
  | frz ob u ih => obtain ⟨e, q⟩ := x; exact ⟨k _ _ (.inl rfl) e, ih q⟩
  | tbl ps =>
    have e : h.get? a = some { cls := .none, data := .fields ps } := x
    show h'.get? a = some { cls := .none, data := .fields ps }
    exact k a _ (.inl rfl) e
  | met f y =>
    have e : h.get? a = some (PySem.W.methodObj (.ref f) (.ref y)) := x
    show h'.get? a = some (PySem.W.methodObj (.ref f) (.ref y))
    exact k a _ (.inl rfl) e
  | ext φ => obtain ⟨p, ⟨o, e⟩, st⟩ := x; exact ⟨st _ _ p fun o q => k _ _ (.inl rfl) q, ⟨o, k _ _ (.inl rfl) e⟩, st⟩
theorem HOk.lt (x : HOk P w H h) (e : H a = some o) : a < h.objs.size := (x a o e).lt
theorem HOk.fresh (x : HOk P w H h) (e : h.objs.size ≤ a) : H a = none := by
  cases q : H a with
  | none => rfl
  | some u => exact absurd (Nat.lt_of_lt_of_le (x.lt q) e) (Nat.lt_irrefl _)
/-- every object of the heap is kept -/
theorem HOk.kept (x : HOk P w H h) (k : ∀ b u, h.get? b = some u → h'.get? b = some u) : HOk P w H h' := fun a o e =>
  (x a o e).stay (fun b u _ q => k b u q) (fun _ q => q) fun _ _ q => q
/-- a new object is laid and tracked -/
theorem HOk.laid (x : HOk P w H h) (k : ∀ b u, h.get? b = some u → h'.get? b = some u) (hp : h.objs.size ≤ a) (new : ObjOk P w (upd H a o) h' a o) : HOk P w (upd H a o) h' := fun b u e => by
  have hn := x.fresh hp
  by_cases hb : b = a
  · subst hb; rw [upd_same] at e; cases e; exact new
  · rw [upd_ne hb] at e
    exact (x b u e).stay (fun c v _ q => k c v q) (fun c q => by rw [upd_ne (ne_of_none q hn)]; exact q) fun c xs q => by rw [upd_ne (ne_of_none q hn)]; exact q
end

/-- what may be read as u: it is u, or a known u -/
noncomputable def Rd (H : Hp) (a : Addr) (u : HO) : Prop := H a = some u ∨ ∃ o, H a = some (.frz o u)
theorem Rd.ok {P : Program} {w : World} {H : Hp} {h : Heap} {a : Addr} {u : HO} (r : Rd H a u) (x : HOk P w H h) : ObjOk P w H h a u := by
  rcases r with r | ⟨o, r⟩
  · exact x a u r
  · obtain ⟨_, q⟩ := x a _ r
    exact q
/-- what may be written -/
noncomputable def Mut : Option HO → Prop
  | some (.lst _) => True
  | some (.dK _) => True
  | some (.dT _) => True
  | some (.set _ _) => True
  | some (.ins _ _ _) => True
  | some (.ext _) => True
  | _ => False
section
variable {P : Program} {w : World} {H : Hp} {h h' : Heap} {x e : Addr} {o' : HO}
/-- the object at e is changed: x itself, or the dict of the instance x -/
theorem HOk.write (ok : HOk P w H h) (mu : Mut (H x)) (he : e = x ∨ H e = some (.own x)) (k : ∀ b u, b ≠ e → h.get? b = some u → h'.get? b = some u) (heo : ∃ u, h'.get? e = some u)
    (new : ObjOk P w (upd H x o') h' x o') : HOk P w (upd H x o') h' := fun b u q => by
  have nown : ∀ c y, H c = some (.own y) → c ≠ x := fun c y r z => by subst z; rw [r] at mu; exact mu
  have ntup : ∀ c xs, H c = some (.tup xs) → c ≠ x := fun c xs r z => by subst z; rw [r] at mu; exact mu
  by_cases hb : b = x
  · subst hb; rw [upd_same] at q; cases q; exact new
  · rw [upd_ne hb] at q
    by_cases hbe : b = e
    · have q' : H b = some (.own x) := by
        rcases he with z | z
        · exact absurd (hbe.trans z) hb
        · rw [hbe]; exact z
      rw [q] at q'; cases q'
      obtain ⟨v, hv⟩ := heo
      exact ⟨v, by rw [hbe]; exact hv⟩
    · refine (ok b u q).stay (fun c v hc r => k c v ?_ r) (fun c r => by rw [upd_ne (nown c b r)]; exact r) fun c xs r => by rw [upd_ne (ntup c xs r)]; exact r
      rcases hc with rfl | hc
      · exact hbe
      · rintro rfl
        rcases he with z | z
        · exact nown c b hc z
        · rw [hc] at z; cases z; exact hb rfl
end

/-! ### kept unless tracked; of the frames at fs (the callers') the slots may change (an exception that passes writes there); of the records at ex (iterators) nothing is said -/
structure Un (fs ex : List Addr) (H H' : Hp) (h h' : Heap) : Prop where
  keep : ∀ b o, h.get? b = some o → H b = none → b ∉ fs → b ∉ ex → h'.get? b = some o
  slot : ∀ b o, h.get? b = some o → H b = none → b ∈ fs → b ∉ ex → ∃ sl, h'.get? b = some { o with slots := sl }
  free : ∀ b o, h.get? b = some o → H b = none → b ∉ ex → H' b = none
  there : ∀ b o, h.get? b = some o → b ∉ ex → ∃ o', h'.get? b = some o'
  tups : ∀ b xs, H b = some (.tup xs) → H' b = some (.tup xs)
  frzs : ∀ b o u, H b = some (.frz o u) → H' b = some (.frz o u)
  tbls : ∀ b ps, H b = some (.tbl ps) → ∃ more, H' b = some (.tbl (ps ++ more))
section
variable {fs fs' ex ex' : List Addr} {H H1 H2 : Hp} {h h1 h2 h' : Heap} {a x e : Addr} {o : HO}
theorem Un.any (u : Un fs ex H H1 h h1) {b : Addr} {ob : Obj} (q : h.get? b = some ob) (n : H b = none) (hx : b ∉ ex) : ∃ sl, h1.get? b = some { ob with slots := sl } := by
  by_cases hb : b ∈ fs
  · exact u.slot b ob q n hb hx
  · exact ⟨ob.slots, u.keep b ob q n hb hx⟩
theorem Un.kept (k : ∀ b u, h.get? b = some u → h'.get? b = some u) : Un fs ex H H h h' :=
  ⟨fun b ob q _ _ _ => k b ob q, fun b ob q _ _ _ => ⟨ob.slots, k b ob q⟩, fun _ _ _ n _ => n, fun b ob q _ => ⟨ob, k b ob q⟩, fun _ _ q => q, fun _ _ _ q => q, fun _ ps q => ⟨#[], by rw [q]; simp⟩⟩
theorem Un.refl : Un fs ex H H h h := Un.kept fun _ _ q => q
theorem Un.laid (k : ∀ b u, h.get? b = some u → h'.get? b = some u) (hp : h.objs.size ≤ a) (hn : H a = none) : Un fs ex H (upd H a o) h h' where
  keep := fun b u q _ _ _ => k b u q
  slot := fun b u q _ _ _ => ⟨u.slots, k b u q⟩
  free := fun b u q n _ => by rw [upd_ne (Nat.ne_of_lt (Nat.lt_of_lt_of_le (Heap.lt_size q) hp))]; exact n
  there := fun b u q _ => ⟨u, k b u q⟩
  tups := fun b xs q => by rw [upd_ne (ne_of_none q hn)]; exact q
  frzs := fun b u xs q => by rw [upd_ne (ne_of_none q hn)]; exact q
  tbls := fun b ps q => ⟨#[], by rw [upd_ne (ne_of_none q hn), q]; simp⟩
theorem Un.write (mu : Mut (H x)) (he : e = x ∨ H e = some (.own x)) (k : ∀ b u, b ≠ e → h.get? b = some u → h'.get? b = some u) (heo : ∃ u, h'.get? e = some u) : Un fs ex H (upd H x o) h h' := by
  have hx : ∀ b, H b = none → b ≠ x := fun b n z => by subst z; rw [n] at mu; exact mu
  have hb : ∀ b, H b = none → b ≠ e := fun b n z => by
    subst z
    rcases he with r | r
    · exact hx b n r
    · rw [n] at r; cases r
  have hm : ∀ b u, H b = some u → ¬ Mut (some u) → b ≠ x := fun b u q nm z => by subst z; rw [q] at mu; exact nm mu
  refine ⟨fun b u q n _ _ => k b u (hb b n) q, fun b u q n _ _ => ⟨u.slots, k b u (hb b n) q⟩, fun b u q n _ => by rw [upd_ne (hx b n)]; exact n, fun b u q _ => ?_,
    fun b xs q => by rw [upd_ne (hm b _ q fun z => z)]; exact q, fun b u xs q => by rw [upd_ne (hm b _ q fun z => z)]; exact q, fun b ps q => ⟨#[], by rw [upd_ne (hm b _ q fun z => z), q]; simp⟩⟩
  by_cases hbe : b = e
  · subst hbe; exact heo
  · exact ⟨u, k b u hbe q⟩
end

/-! ### the heap without what is tracked -/
noncomputable def trk (h : Heap) (H : Hp) : List Addr := (List.range h.objs.size).filter fun a => (H a).isSome
noncomputable def hidT (h : Heap) (H : Hp) : Heap := PySem.W.hideAll h (trk h H)
theorem hidT_size (h : Heap) (H : Hp) : (hidT h H).objs.size = h.objs.size := PySem.W.hideAll_size _ _
theorem hidT_get {h : Heap} {H : Hp} {b : Addr} {o : Obj} (e : h.get? b = some o) (n : H b = none) : (hidT h H).get? b = some o :=
  PySem.W.hideAll_get _ e fun hm => by
    have q : (H b).isSome = true := (List.mem_filter.mp hm).2
    rw [n] at q; simp at q
theorem of_hidT {h : Heap} {H : Hp} {b : Addr} {o : Obj} (e : (hidT h H).get? b = some o) : h.get? b = some o ∧ H b = none := by
  have e' : h.get? b = some o := PySem.W.of_hideAll (trk h H) e
  refine ⟨e', ?_⟩
  cases q : H b with
  | none => rfl
  | some x =>
    have hm : b ∈ trk h H := List.mem_filter.mpr ⟨List.mem_range.mpr (Heap.lt_size e'), by simp [q]⟩
    have z : (hidT h H).get? b = none := PySem.W.hideAll_none (trk h H) hm
    rw [z] at e; cases e

/-! ### OpenK's ledger, filled with every new object but one -/
end L2

namespace L2
open PySem PySem.Spec PyProof.Rows

/-- the module's facts, over the base: the heap at the law's entry without what is tracked there -/
structure Mod (K : PySem.W.Frag) (mg : Str → Option Value) (base : Heap) : Prop where
  kin : K.In base
  glob : base.Ns mainGlobals mg
  blt : ∃ mb, base.Ns builtinsNs mb ∧ ∀ x : Str, x ≠ "__name__" → mb x = bootBuiltins x
  nolimit : base.NoLimit

/-- the context: a def's body (or a comprehension's block) running. base: fixed through the whole law; s₀, H₀: the entry; outer: the frames whose slots others may change (a def's callers); stack: all frames that run;
   ex: iterators that were made ahead of the entry and are walked here (a comprehension's); fn: the names whose cells were made at the entry (a def: all; a comprehension's block: its own); calm: not within an except suite; pn: pins that every state bears; xe: what is wanted of an exception that leaves the code -/
structure Cx where
  prog : Program
  w : World
  K : PySem.W.Frag
  mg : Str → Option Value
  base : Heap
  A : Around
  N : List Str
  s₀ : Shared
  H₀ : Hp
  env : Env
  outer : List Env
  stack : List Env
  ex : List Addr
  fn : Str → Bool
  calm : Bool
  pn : List (Addr × Obj)
  xe : Value → Shared → Prop
/-- the callers' frames -/
noncomputable def frs (l : List Env) : List Addr := l.filterMap (·.frame)
noncomputable abbrev Cx.fs (X : Cx) : List Addr := frs X.outer

noncomputable def Vis (sc : Scope) (x : Str) : Prop := sc.names.lookup x = some .local ∨ sc.names.lookup x = some .cell ∨ sc.names.lookup x = some .free
noncomputable def Loc (sc : Scope) (x : Str) : Prop := sc.names.lookup x = some .local ∨ sc.names.lookup x = some .cell
noncomputable def Look (env : Env) (h : Heap) (m : Str → Option Value) (x : Str) (u : Value) : Prop :=
  (env.kindOf x = some .local ∧ m x = some u) ∨ ((env.kindOf x = some .cell ∨ env.kindOf x = some .free) ∧ ∃ c, env.cells.lookup x = some c ∧ h.IsCell c (some u))

structure Cx.Ok (X : Cx) : Prop where
  mod : Mod X.K X.mg X.base
  kind : X.env.scope.kind = .function
  glob : X.env.globals = mainGlobals
  blt : X.env.builtins = builtinsNs
  above : X.s₀.heap.objs.size ≤ X.env.locals
  inj : ∀ x y c, X.env.cells.lookup x = some c → X.env.cells.lookup y = some c → x = y
  has : ∀ x, (X.env.kindOf x = some .cell ∨ X.env.kindOf x = some .free) → ∃ c, X.env.cells.lookup x = some c
  cab : ∀ x c, X.fn x = true → X.env.cells.lookup x = some c → X.s₀.heap.objs.size ≤ c
  hd : X.calm = true → X.A.handled = none
  frames : X.A.frames = some X.stack
  stk : X.stack = X.outer ∨ (X.stack = X.env :: X.outer ∧ X.env.frame = some X.env.locals)
  exf : ∀ b ∈ X.ex, b ≠ X.env.locals ∧ ∀ x c, X.env.cells.lookup x = some c → c ≠ b
  bs : ∀ b o, X.base.get? b = some o → X.s₀.heap.get? b = some o ∧ X.H₀ b = none
  bsz : X.base.objs.size ≤ X.s₀.heap.objs.size
  noex : ∀ b o, X.base.get? b = some o → b ∉ X.ex
  exfs : ∀ b ∈ X.ex, b ∉ X.fs
  funs : X.s₀.heap.FunFrames X.base X.outer
  frf : ∀ b ∈ X.fs, X.H₀ b = none

structure Inv (X : Cx) (pins : List (Addr × Obj)) (σ : List (Option V)) (H : Hp) (s : Shared) : Prop where
  ok : X.Ok
  os : s.os = X.s₀.os
  bare : AllBare s.gens
  base : Un X.fs X.ex X.H₀ H X.s₀.heap s.heap
  loc : ∃ m, s.heap.Ns X.env.locals m ∧ ∀ (i : Nat) (x : Str) (v : V), X.N[i]? = some x → σ[i]? = some (some v) → Vis X.env.scope x → ∃ u, RelV v u ∧ Look X.env s.heap m x u
  cell : ∀ x c, X.env.cells.lookup x = some c → ∃ v, s.heap.IsCell c v
  free : H X.env.locals = none
  freeC : ∀ x c, X.env.cells.lookup x = some c → H c = none
  pin : ∀ p ∈ X.pn ++ pins, s.heap.get? p.1 = some p.2 ∧ H p.1 = none ∧ p.1 ≠ X.env.locals ∧ p.1 ∉ X.fs ∧ ∀ v, p.2.data ≠ .cell v
  hok : HOk X.prog X.w H s.heap
  len : σ.length = X.N.length

section
variable {X : Cx} {pins : List (Addr × Obj)} {σ : List (Option V)} {H H' : Hp} {s : Shared} {h' : Heap}

theorem Cx.Ok.nofr (ok : X.Ok) {b : Addr} {o : Obj} (e : X.base.get? b = some o) : b ∉ X.fs := fun hb => by
  have := (ok.funs.mem hb).1
  rw [e] at this; cases this
theorem Inv.bs (I : Inv X pins σ H s) : ∀ b o, X.base.get? b = some o → s.heap.get? b = some o ∧ H b = none := fun b o e =>
  ⟨I.base.keep b o (I.ok.bs b o e).1 (I.ok.bs b o e).2 (I.ok.nofr e) (I.ok.noex b o e), I.base.free b o (I.ok.bs b o e).1 (I.ok.bs b o e).2 (I.ok.noex b o e)⟩
theorem Inv.bk (I : Inv X pins σ H s) : ∀ b o, X.base.get? b = some o → s.heap.get? b = some o := fun b o e => (I.bs b o e).1
theorem Inv.mod (I : Inv X pins σ H s) : Mod X.K X.mg X.base := I.ok.mod
theorem Inv.kIn (I : Inv X pins σ H s) : X.K.In s.heap := I.ok.mod.kin.keeps I.bk
theorem Inv.nolimit (I : Inv X pins σ H s) : s.heap.NoLimit := I.ok.mod.nolimit.keeps I.bk
theorem Inv.lt (I : Inv X pins σ H s) : X.env.locals < s.heap.objs.size := let ⟨_, hn, _⟩ := I.loc; hn.lt
theorem Inv.sz (I : Inv X pins σ H s) : X.s₀.heap.objs.size ≤ s.heap.objs.size := Nat.le_trans I.ok.above (Nat.le_of_lt I.lt)
theorem Inv.nofs (I : Inv X pins σ H s) {a : Addr} (h : s.heap.objs.size ≤ a) : a ∉ X.fs := fun hb => by
  obtain ⟨_, o, ho, _⟩ := I.ok.funs.mem hb
  exact absurd (Nat.lt_of_lt_of_le (Heap.lt_size ho) (Nat.le_trans I.sz h)) (Nat.lt_irrefl _)
theorem Inv.cne (I : Inv X pins σ H s) : ∀ x c, X.env.cells.lookup x = some c → c ≠ X.env.locals := fun x c e z => by
  obtain ⟨v, o, ho, hd⟩ := I.cell x c e
  obtain ⟨m, ⟨o', es, ep, ho', hd', _⟩, _⟩ := I.loc
  rw [z, ho'] at ho; cases ho; rw [hd'] at hd; cases hd
theorem Inv.funs (I : Inv X pins σ H s) : s.heap.FunFrames X.base X.outer := by
  have all : ∀ (l : List Env), (∀ b ∈ frs l, b ∈ X.fs) → X.s₀.heap.FunFrames X.base l → s.heap.FunFrames X.base l := by
    intro l
    induction l with
    | nil => intro _ _; trivial
    | cons env r ih =>
      intro hs hl
      obtain ⟨hk, ⟨L, o, hf, hn, ho, hd⟩, hr⟩ := hl
      have hL : L ∈ X.fs := hs L (by unfold frs; rw [List.filterMap_cons, hf]; exact List.mem_cons_self)
      obtain ⟨sl, e⟩ := I.base.slot L o ho (I.ok.frf L hL) hL fun z => I.ok.exfs L z hL
      exact ⟨hk, ⟨L, _, hf, hn, e, hd⟩, ih (fun b hb => hs b (by unfold frs; rw [List.filterMap_cons, hf]; exact List.mem_cons_of_mem _ hb)) hr⟩
  exact all X.outer (fun _ hb => hb) I.ok.funs

/-- the frames that run, for a call -/
theorem Inv.stack (I : Inv X pins σ H s) : s.heap.FunFrames X.base X.stack := by
  rcases I.ok.stk with e | ⟨e, hf⟩
  · rw [e]; exact I.funs
  · rw [e]
    obtain ⟨m, hn, _⟩ := I.loc
    refine .cons (by rw [I.ok.kind]; decide) hf hn ?_ I.funs
    exact Heap.get?_none_of_le (Nat.le_trans I.ok.bsz I.ok.above)
theorem Inv.stkSub (I : Inv X pins σ H s) : ∀ b ∈ frs X.stack, b ∈ X.env.locals :: X.fs := fun b hb => by
  rcases I.ok.stk with e | ⟨e, hf⟩
  · rw [e] at hb; exact List.mem_cons_of_mem _ hb
  · rw [e] at hb
    unfold frs at hb
    rw [List.filterMap_cons, hf] at hb
    exact hb
theorem Inv.stkFree (I : Inv X pins σ H s) : ∀ b ∈ frs X.stack, H b = none := fun b hb => by
  rcases List.mem_cons.mp (I.stkSub b hb) with e | hb
  · rw [e]; exact I.free
  · obtain ⟨_, o, ho, _⟩ := I.ok.funs.mem hb
    exact I.base.free b o ho (I.ok.frf b hb) fun z => I.ok.exfs b z hb

/-- THE STEP: the untracked objects but the frame and the records at ch are kept (the callers' frames up to slots), the frame's map is kept, the new abstract heap is held -/
theorem Inv.step {g' : Array GenState} {t' : Nat} {d' : Drawn} {ch : List Addr} (I : Inv X pins σ H s)
    (hch : ∀ b ∈ ch, (b ∈ X.ex ∨ X.s₀.heap.objs.size ≤ b) ∧ b ≠ X.env.locals ∧ (∀ x c, X.env.cells.lookup x = some c → c ≠ b) ∧ ∀ p ∈ X.pn ++ pins, p.1 ≠ b)
    (keep : ∀ b o, b ≠ X.env.locals → b ∉ X.fs → b ∉ ch → s.heap.get? b = some o → H b = none → h'.get? b = some o)
    (slot : ∀ b o, b ≠ X.env.locals → b ∈ X.fs → b ∉ ch → s.heap.get? b = some o → H b = none → ∃ sl, h'.get? b = some { o with slots := sl }) (free : ∀ b o, b ∉ ch → s.heap.get? b = some o → H b = none → H' b = none)
    (there : ∀ b o, b ∉ ch → s.heap.get? b = some o → ∃ o', h'.get? b = some o')
    (tups : ∀ b xs, H b = some (.tup xs) → H' b = some (.tup xs)) (frzs : ∀ b o u, H b = some (.frz o u) → H' b = some (.frz o u)) (tbls : ∀ b ps, H b = some (.tbl ps) → ∃ more, H' b = some (.tbl (ps ++ more)))
    (ns : ∀ m, s.heap.Ns X.env.locals m → h'.Ns X.env.locals m) (hok : HOk X.prog X.w H' h') (hg : AllBare g') :
    Inv X pins σ H' { s with heap := h', gens := g', drawn := d', toks := t' } := by
  have neL : ∀ b o, X.s₀.heap.get? b = some o → b ≠ X.env.locals := fun b o e => Nat.ne_of_lt (Nat.lt_of_lt_of_le (Heap.lt_size e) I.ok.above)
  have neC : ∀ b o, X.s₀.heap.get? b = some o → b ∉ X.ex → b ∉ ch := fun b o e hx hb => by
    rcases (hch b hb).1 with z | z
    · exact hx z
    · exact absurd (Nat.lt_of_lt_of_le (Heap.lt_size e) z) (Nat.lt_irrefl _)
  have cellK : ∀ x c, X.env.cells.lookup x = some c → ∀ v, s.heap.IsCell c v → h'.IsCell c v := fun x c e v ⟨o, ho, hd⟩ => by
    have nch : c ∉ ch := fun z => (hch c z).2.2.1 x c e rfl
    by_cases hc : c ∈ X.fs
    · obtain ⟨sl, q⟩ := slot c o (I.cne x c e) hc nch ho (I.freeC x c e)
      exact ⟨_, q, hd⟩
    · exact ⟨o, keep c o (I.cne x c e) hc nch ho (I.freeC x c e), hd⟩
  refine ⟨I.ok, I.os, hg, ⟨fun b o e n hb hx => ?_, fun b o e n hb hx => ?_, fun b o e n hx => ?_, fun b o e hx => ?_, fun b xs e => tups b xs (I.base.tups b xs e), fun b o xs e => frzs b o xs (I.base.frzs b o xs e), fun b ps e => ?_⟩, ?_, fun x c e => ?_, ?_, fun x c e => ?_, fun p hp => ?_, hok, I.len⟩
  · exact keep b o (neL b o e) hb (neC b o e hx) (I.base.keep b o e n hb hx) (I.base.free b o e n hx)
  · obtain ⟨sl, e1⟩ := I.base.slot b o e n hb hx
    obtain ⟨sl', e2⟩ := slot b _ (neL b o e) hb (neC b o e hx) e1 (I.base.free b o e n hx)
    exact ⟨sl', e2⟩
  · obtain ⟨o', e1⟩ := I.base.there b o e hx
    exact free b o' (neC b o e hx) e1 (I.base.free b o e n hx)
  · obtain ⟨o', e1⟩ := I.base.there b o e hx
    exact there b o' (neC b o e hx) e1
  · obtain ⟨m1, e1⟩ := I.base.tbls b ps e
    obtain ⟨m2, e2⟩ := tbls b _ e1
    exact ⟨m1 ++ m2, by rw [e2, Array.append_assoc]⟩
  · obtain ⟨m, hn, hl⟩ := I.loc
    refine ⟨m, ns m hn, fun i x v e1 e2 e3 => ?_⟩
    obtain ⟨u, r, l⟩ := hl i x v e1 e2 e3
    refine ⟨u, r, ?_⟩
    rcases l with l | ⟨k, c, e, z⟩
    · exact .inl l
    · exact .inr ⟨k, c, e, cellK x c e _ z⟩
  · obtain ⟨v, z⟩ := I.cell x c e
    exact ⟨v, cellK x c e v z⟩
  · obtain ⟨m, ⟨o, _, _, ho, _⟩, _⟩ := I.loc
    exact free _ o (fun z => (hch _ z).2.1 rfl) ho I.free
  · obtain ⟨v, o, ho, hd⟩ := I.cell x c e
    exact free c o (fun z => (hch c z).2.2.1 x c e rfl) ho (I.freeC x c e)
  · obtain ⟨e, n, ne, nf, d⟩ := I.pin p hp
    have nch : p.1 ∉ ch := fun z => (hch p.1 z).2.2.2 p hp rfl
    exact ⟨keep p.1 p.2 ne nf nch e n, free p.1 p.2 nch e n, ne, nf, d⟩
/-- .. where the frame's own object is kept too -/
theorem Inv.un {t' : Nat} (I : Inv X pins σ H s) (u : Un X.fs [] H H' s.heap h') (hok : HOk X.prog X.w H' h') : Inv X pins σ H' { s with heap := h', toks := t' } := by
  obtain ⟨m, ⟨o, es, ep, ho, r⟩, _⟩ := id I.loc
  obtain ⟨sl, hL⟩ := u.any ho I.free (by simp)
  exact I.step (g' := s.gens) (d' := s.drawn) (ch := []) (fun _ z => nomatch z) (fun b o _ hb _ e n => u.keep b o e n hb (by simp)) (fun b o _ hb _ e n => u.slot b o e n hb (by simp)) (fun b o _ e n => u.free b o e n (by simp)) (fun b o _ e => u.there b o e (by simp)) u.tups u.frzs u.tbls (fun m' hm => by
    obtain ⟨o', es', ep', ho', r'⟩ := hm
    rw [ho] at ho'; cases ho'
    exact ⟨_, es', ep', hL, r'⟩) hok I.bare
/-- behind a call (or a comprehension's block): the slots of this frame may have changed too, the records at ch may have turned -/
theorem Inv.call {g' : Array GenState} {t' : Nat} {d' : Drawn} {ch : List Addr} (I : Inv X pins σ H s) (u : Un (frs X.stack) ch H H' s.heap h') (hok : HOk X.prog X.w H' h') (hg : AllBare g')
    (hch : ∀ b ∈ ch, (b ∈ X.ex ∨ X.s₀.heap.objs.size ≤ b) ∧ b ≠ X.env.locals ∧ (∀ x c, X.env.cells.lookup x = some c → c ≠ b) ∧ ∀ p ∈ X.pn ++ pins, p.1 ≠ b) :
    Inv X pins σ H' { s with heap := h', gens := g', drawn := d', toks := t' } := by
  obtain ⟨m, ⟨o, es, ep, ho, r⟩, _⟩ := id I.loc
  obtain ⟨sl, hL⟩ := u.any ho I.free fun z => (hch _ z).2.1 rfl
  exact I.step (ch := ch) hch (fun b o hL hb hc e n => u.keep b o e n (fun z => (List.mem_cons.mp (I.stkSub b z)).elim hL hb) hc) (fun b o _ _ hc e n => u.any e n hc) (fun b o hc e n => u.free b o e n hc) (fun b o hc e => u.there b o e hc) u.tups u.frzs u.tbls (fun m' hm => by
    obtain ⟨o', es', ep', ho', r'⟩ := hm
    rw [ho] at ho'; cases ho'
    exact ⟨_, es', ep', hL, r'⟩) hok hg
/-- an untracked record of ours (an iterator) has turned -/
theorem Inv.turned {t' : Nat} {it : Addr} (I : Inv X pins σ H s) (k : ∀ b o, b ≠ it → s.heap.get? b = some o → h'.get? b = some o) (hn : H it = none) (hL : it ≠ X.env.locals)
    (h1 : it ∈ X.ex ∨ X.s₀.heap.objs.size ≤ it) (h2 : ∀ x c, X.env.cells.lookup x = some c → c ≠ it) (h3 : ∀ p ∈ X.pn ++ pins, p.1 ≠ it) : Inv X pins σ H { s with heap := h', toks := t' } := by
  have nit : ∀ b u, H b = some u → b ≠ it := fun b u e z => by rw [z, hn] at e; cases e
  refine I.step (g' := s.gens) (d' := s.drawn) (ch := [it]) (fun b hb => ?_) (fun b o _ _ hc e _ => k b o (fun z => hc (by simp [z])) e) (fun b o _ _ hc e _ => ⟨o.slots, k b o (fun z => hc (by simp [z])) e⟩) (fun _ _ _ _ n => n)
    (fun b o hc e => ⟨o, k b o (fun z => hc (by simp [z])) e⟩) (fun _ _ e => e) (fun _ _ _ e => e) (fun b ps e => ⟨#[], by rw [e]; simp⟩) (fun m hm => ?_) (fun b u e => ?_) I.bare
  · have e : b = it := by simpa using hb
    subst e
    exact ⟨h1, hL, h2, h3⟩
  · obtain ⟨o, es, ep, ho, r⟩ := hm
    exact ⟨o, es, ep, k _ o (Ne.symm hL) ho, r⟩
  · refine (I.hok b u e).stay (fun c v hc q => k c v ?_ q) (fun _ q => q) fun _ _ q => q
    rcases hc with z | z
    · rw [z]; exact nit b u e
    · exact nit c _ z
theorem Inv.tok (I : Inv X pins σ H s) (t : Nat) : Inv X pins σ H { s with toks := t } := I.un (h' := s.heap) (t' := t) Un.refl I.hok
/-- all objects kept -/
theorem Inv.kept {t' : Nat} (I : Inv X pins σ H s) (k : ∀ b u, s.heap.get? b = some u → h'.get? b = some u) : Inv X pins σ H { s with heap := h', toks := t' } := I.un (Un.kept k) (I.hok.kept k)
/-- a new object laid and tracked -/
theorem Inv.laid {a : Addr} {o : HO} {t' : Nat} (I : Inv X pins σ H s) (k : ∀ b u, s.heap.get? b = some u → h'.get? b = some u) (hp : s.heap.objs.size ≤ a) (new : ObjOk X.prog X.w (upd H a o) h' a o) :
    Inv X pins σ (upd H a o) { s with heap := h', toks := t' } := I.un (Un.laid k hp (I.hok.fresh hp)) (I.hok.laid k hp new)
/-- an object written -/
theorem Inv.write {x e : Addr} {o : HO} {t' : Nat} (I : Inv X pins σ H s) (mu : Mut (H x)) (he : e = x ∨ H e = some (.own x)) (k : ∀ b u, b ≠ e → s.heap.get? b = some u → h'.get? b = some u) (heo : ∃ u, h'.get? e = some u)
    (new : ObjOk X.prog X.w (upd H x o) h' x o) : Inv X pins σ (upd H x o) { s with heap := h', toks := t' } := I.un (Un.write mu he k heo) (I.hok.write mu he k heo new)
/-- forgetting slots, pins -/
theorem Inv.weak {σ' : List (Option V)} (I : Inv X pins σ H s) (hl : σ'.length = σ.length) (w : ∀ (i : Nat) v, σ'[i]? = some (some v) → σ[i]? = some (some v)) : Inv X pins σ' H s :=
  ⟨I.ok, I.os, I.bare, I.base, let ⟨m, hn, hl'⟩ := I.loc; ⟨m, hn, fun i x v e1 e2 e3 => hl' i x v e1 (w i v e2) e3⟩, I.cell, I.free, I.freeC, I.pin, I.hok, hl.trans I.len⟩
theorem Inv.pins_of {pins' : List (Addr × Obj)} (I : Inv X pins σ H s) (h : ∀ p ∈ pins', s.heap.get? p.1 = some p.2 ∧ H p.1 = none ∧ p.1 ≠ X.env.locals ∧ p.1 ∉ X.fs ∧ ∀ v, p.2.data ≠ .cell v) : Inv X pins' σ H s :=
  ⟨I.ok, I.os, I.bare, I.base, I.loc, I.cell, I.free, I.freeC, fun p hp => (List.mem_append.mp hp).elim (fun z => I.pin p (List.mem_append_left _ z)) (h p), I.hok, I.len⟩

theorem nodup_ix {N : List Str} (hN : N.Nodup) {i j : Nat} {x : Str} (a : N[i]? = some x) (b : N[j]? = some x) : i = j := by
  obtain ⟨h1, e1⟩ := List.getElem?_eq_some_iff.mp a
  obtain ⟨h2, e2⟩ := List.getElem?_eq_some_iff.mp b
  exact (List.getElem_inj hN).mp (e1.trans e2.symm)

/-- a name is stored; what changed -/
theorem store_ok2 {M : Model} {A : Around} {E : Value → Shared → Prop} {i : Nat} {x : Str} {v : V} {u : Value} {Q : Unit → Shared → Prop} (I : Inv X pins σ H s) (hN : X.N.Nodup) (hi : X.N[i]? = some x) (hx : Loc X.env.scope x) (r : RelV v u)
    (h : ∀ s', Inv X pins (σ.set i (some v)) H s' → (∃ a, Heap.SameBut a s.heap s'.heap ∧ (a = X.env.locals ∨ X.env.cells.lookup x = some a)) → Q () s') (hf : X.fn x = true ∨ X.env.scope.names.lookup x = some .local := by first | exact .inl rfl | exact .inr rfl | assumption) : wpAny M A (storeName X.env x u) Q E s := by
  obtain ⟨m, hn, hl⟩ := id I.loc
  have hcls : (X.env.scope.kind == .class || (X.env.scope.kind == .module && X.env.locals != X.env.globals)) = false := by rw [I.ok.kind]; rfl
  have hiσ : i < σ.length := by rw [I.len]; exact (List.getElem?_eq_some_iff.mp hi).1
  have cne := I.cne
  have tracked : ∀ {a : Addr} {h' : Heap}, (∃ o, s.heap.get? a = some o ∧ H a = none) → Heap.SameBut a s.heap h' → HOk X.prog X.w H h' := fun {a h'} ha hs b ob e => by
    obtain ⟨_, _, hfree⟩ := ha
    refine (I.hok b ob e).stay (fun c w' hc q => (hs.2 c ?_).trans q) (fun _ q => q) fun _ _ q => q
    rintro rfl
    rcases hc with rfl | hc
    · rw [hfree] at e; cases e
    · rw [hfree] at hc; cases hc
  rcases hx with hk | hk
  · refine wpAny_storeName_local hk hn (fun h' hn' hs => ?_) hcls
    obtain ⟨oL, _, _, hoL, _⟩ := id hn
    refine h _ ⟨I.ok, I.os, I.bare, ⟨fun b o e n hb hx => ?_, fun b o e n hb hx => ?_, I.base.free, fun b o e hx => ?_, I.base.tups, I.base.frzs, I.base.tbls⟩, ⟨_, hn', fun j y v' e1 e2 e3 => ?_⟩, fun y c e => ?_, I.free, I.freeC, fun p hp => ?_, tracked ⟨oL, hoL, I.free⟩ hs, by simpa using I.len⟩ ⟨_, hs, .inl rfl⟩
    · exact (hs.2 b (Nat.ne_of_lt (Nat.lt_of_lt_of_le (Heap.lt_size e) I.ok.above))).trans (I.base.keep b o e n hb hx)
    · obtain ⟨sl, e1⟩ := I.base.slot b o e n hb hx
      exact ⟨sl, (hs.2 b (Nat.ne_of_lt (Nat.lt_of_lt_of_le (Heap.lt_size e) I.ok.above))).trans e1⟩
    · obtain ⟨o', e1⟩ := I.base.there b o e hx
      exact ⟨o', (hs.2 b (Nat.ne_of_lt (Nat.lt_of_lt_of_le (Heap.lt_size e) I.ok.above))).trans e1⟩
    · by_cases hj : j = i
      · subst hj
        rw [hi] at e1; cases e1
        rw [List.getElem?_set_self hiσ] at e2
        cases e2
        exact ⟨u, r, .inl ⟨hk, by simp⟩⟩
      · rw [List.getElem?_set_ne (Ne.symm hj)] at e2
        obtain ⟨u', r', q⟩ := hl j y v' e1 e2 e3
        refine ⟨u', r', ?_⟩
        rcases q with ⟨k, e⟩ | ⟨k, c, e, z⟩
        · refine .inl ⟨k, ?_⟩
          have : y ≠ x := fun e => hj (nodup_ix hN e1 (e ▸ hi))
          simp [this, e]
        · exact .inr ⟨k, c, e, z.sameBut hs (cne y c e)⟩
    · obtain ⟨w', z⟩ := I.cell y c e
      exact ⟨w', z.sameBut hs (cne y c e)⟩
    · obtain ⟨e, n, ne, nf, d⟩ := I.pin p hp
      exact ⟨(hs.2 p.1 ne).trans e, n, ne, nf, d⟩
  · have hfn : X.fn x = true := by
      rcases hf with z | z
      · exact z
      · rw [z] at hk; cases hk
    obtain ⟨c, hc⟩ := I.ok.has x (.inl hk)
    obtain ⟨w', z⟩ := I.cell x c hc
    refine wpAny_storeName_cell I.ok.kind hk hc z (fun h' hc' hs => ?_)
    obtain ⟨oc, hoc, hocd⟩ := id z
    refine h { s with heap := h' } ⟨I.ok, I.os, I.bare, ⟨fun b o e n hb hx => ?_, fun b o e n hb hx => ?_, I.base.free, fun b o e hx => ?_, I.base.tups, I.base.frzs, I.base.tbls⟩, ⟨m, hn.sameBut hs (Ne.symm (cne x c hc)), fun j y v' e1 e2 e3 => ?_⟩, fun y c' e => ?_, I.free, I.freeC, fun p hp => ?_, tracked ⟨oc, hoc, I.freeC x c hc⟩ hs, by simpa using I.len⟩ ⟨c, hs, .inr hc⟩
    · exact (hs.2 b (Nat.ne_of_lt (Nat.lt_of_lt_of_le (Heap.lt_size e) (I.ok.cab x c hfn hc)))).trans (I.base.keep b o e n hb hx)
    · obtain ⟨sl, e1⟩ := I.base.slot b o e n hb hx
      exact ⟨sl, (hs.2 b (Nat.ne_of_lt (Nat.lt_of_lt_of_le (Heap.lt_size e) (I.ok.cab x c hfn hc)))).trans e1⟩
    · obtain ⟨o', e1⟩ := I.base.there b o e hx
      exact ⟨o', (hs.2 b (Nat.ne_of_lt (Nat.lt_of_lt_of_le (Heap.lt_size e) (I.ok.cab x c hfn hc)))).trans e1⟩
    · by_cases hj : j = i
      · subst hj
        rw [hi] at e1; cases e1
        rw [List.getElem?_set_self hiσ] at e2
        cases e2
        exact ⟨u, r, .inr ⟨.inl hk, c, hc, hc'⟩⟩
      · rw [List.getElem?_set_ne (Ne.symm hj)] at e2
        obtain ⟨u', r', q⟩ := hl j y v' e1 e2 e3
        refine ⟨u', r', ?_⟩
        rcases q with q | ⟨k, c', e, z'⟩
        · exact .inl q
        · refine .inr ⟨k, c', e, z'.sameBut hs ?_⟩
          rintro rfl
          exact hj (nodup_ix hN e1 (I.ok.inj _ _ _ e hc ▸ hi))
    · by_cases hcc : c' = c
      · subst hcc; exact ⟨_, hc'⟩
      · obtain ⟨w2, z2⟩ := I.cell y c' e
        exact ⟨w2, z2.sameBut hs hcc⟩
    · obtain ⟨e, n, ne, nf, d⟩ := I.pin p hp
      refine ⟨(hs.2 p.1 ?_).trans e, n, ne, nf, d⟩
      intro q
      rw [q, hoc] at e
      have q' : oc = p.2 := Option.some.inj e
      exact d w' (by rw [← q']; exact hocd)
theorem store_ok {M : Model} {A : Around} {E : Value → Shared → Prop} {i : Nat} {x : Str} {v : V} {u : Value} {Q : Unit → Shared → Prop} (I : Inv X pins σ H s) (hN : X.N.Nodup) (hi : X.N[i]? = some x) (hx : Loc X.env.scope x) (r : RelV v u)
    (h : ∀ s', Inv X pins (σ.set i (some v)) H s' → Q () s') (hf : X.fn x = true ∨ X.env.scope.names.lookup x = some .local := by first | exact .inl rfl | exact .inr rfl | assumption) : wpAny M A (storeName X.env x u) Q E s :=
  store_ok2 I hN hi hx r (fun s' I' _ => h s' I') hf
/-- behind a call or a block, the state as it is -/
theorem Inv.call' {s' : Shared} {ch : List Addr} (I : Inv X pins σ H s) (ho : s'.os = s.os) (u : Un (frs X.stack) ch H H' s.heap s'.heap) (hok : HOk X.prog X.w H' s'.heap) (hg : AllBare s'.gens)
    (hch : ∀ b ∈ ch, (b ∈ X.ex ∨ X.s₀.heap.objs.size ≤ b) ∧ b ≠ X.env.locals ∧ (∀ x c, X.env.cells.lookup x = some c → c ≠ b) ∧ ∀ p ∈ X.pn ++ pins, p.1 ≠ b) : Inv X pins σ H' s' := by
  obtain ⟨h', g', d', t', o'⟩ := s'
  have e : o' = s.os := ho
  subst e
  exact I.call (g' := g') (t' := t') (d' := d') u hok hg hch
end

/-! ### the judgements -/
/-- an exception: its class, its own dict's address (where it has one), the abstract heap behind it -/
noncomputable abbrev XK := Value → Option Addr → Hp → Prop
noncomputable abbrev St := List (Option V)
noncomputable abbrev VK := V → Hp → Prop
/-- an expression's reading; a test's; an argument list's -/
noncomputable abbrev TE := St → Hp → VK → Prop
noncomputable abbrev TT := St → Hp → (Bool → Hp → Prop) → Prop
noncomputable abbrev TA := St → Hp → (List V → Hp → Prop) → Prop
/-- what is wanted behind a statement -/
structure Ends where
  nx : St → Hp → Prop
  rt : VK
  bk : St → Hp → Prop := fun _ _ => False
  ct : St → Hp → Prop := fun _ _ => False
noncomputable abbrev TS := Ends → St → Hp → Prop

noncomputable def EP (X : Cx) (pins : List (Addr × Obj)) (σ : St) (Q : VK) (u : Value) (s' : Shared) : Prop := ∃ v H', Inv X pins σ H' s' ∧ RelV v u ∧ Q v H'
noncomputable def TP (X : Cx) (pins : List (Addr × Obj)) (σ : St) (Q : Bool → Hp → Prop) (b : Bool) (s' : Shared) : Prop := ∃ H', Inv X pins σ H' s' ∧ Q b H'
noncomputable def AP (X : Cx) (pins : List (Addr × Obj)) (σ : St) (Q : List V → Hp → Prop) (us : List Value) (s' : Shared) : Prop := ∃ vs H', Inv X pins σ H' s' ∧ Vals vs us ∧ Q vs H'
noncomputable def SP (X : Cx) (pins : List (Addr × Obj)) (D : Ends) (f : Flow) (s' : Shared) : Prop :=
  match f with
  | .next => ∃ σ' H', Inv X pins σ' H' s' ∧ D.nx σ' H'
  | .brk => ∃ σ' H', Inv X pins σ' H' s' ∧ D.bk σ' H'
  | .cont => ∃ σ' H', Inv X pins σ' H' s' ∧ D.ct σ' H'
  | .ret u => ∃ v σ' H', Inv X pins σ' H' s' ∧ RelV v u ∧ D.rt v H'

noncomputable def PE (X : Cx) (e : Expr) (t : TE) : Prop :=
  ∀ (pins : List (Addr × Obj)) (s : Shared) (σ : St) (H : Hp) (Q : VK), Inv X pins σ H s → t σ H Q → wpAny (model X.prog X.w) X.A (eval e X.env) (EP X pins σ Q) X.xe s
noncomputable def PT (X : Cx) (e : Expr) (t : TT) : Prop :=
  ∀ (pins : List (Addr × Obj)) (s : Shared) (σ : St) (H : Hp) (Q : Bool → Hp → Prop), Inv X pins σ H s → t σ H Q → wpAny (model X.prog X.w) X.A (isTrue e X.env (eval e X.env)) (TP X pins σ Q) X.xe s
/-- a test whatever its 'whole' is (and, or) -/
noncomputable def PW (X : Cx) (e : Expr) (t : TT) : Prop :=
  ∀ (whole : Sem Value) (pins : List (Addr × Obj)) (s : Shared) (σ : St) (H : Hp) (Q : Bool → Hp → Prop), Inv X pins σ H s → t σ H Q → wpAny (model X.prog X.w) X.A (isTrue e X.env whole) (TP X pins σ Q) X.xe s
theorem PW.pt {X : Cx} {e : Expr} {t : TT} (h : PW X e t) : PT X e t := h _
/-- an argument list (no star), from the left -/
noncomputable def PA (X : Cx) (es : List Expr) (t : TA) : Prop :=
  ∀ (pos : Pos) (pins : List (Addr × Obj)) (s : Shared) (σ : St) (H : Hp) (Q : List V → Hp → Prop), Inv X pins σ H s → t σ H Q → wpAny (model X.prog X.w) X.A (spliced (backTo pos (starEach es X.env))) (AP X pins σ Q) X.xe s
noncomputable def PS (X : Cx) (st : Stmt) (t : TS) : Prop :=
  ∀ (pins : List (Addr × Obj)) (s : Shared) (σ : St) (H : Hp) (D : Ends), Inv X pins σ H s → t D σ H → wpAny (model X.prog X.w) X.A (exec st X.env) (SP X pins D) X.xe s
noncomputable def PSs (X : Cx) (st : List Stmt) (t : TS) : Prop :=
  ∀ (pins : List (Addr × Obj)) (s : Shared) (σ : St) (H : Hp) (D : Ends), Inv X pins σ H s → t D σ H → wpAny (model X.prog X.w) X.A (execs st X.env) (SP X pins D) X.xe s
/-- weaken the end -/
theorem thn {α : Type} {t : Sem α} {Q Q' : α → Shared → Prop} {M : Model} {A : Around} {E : Value → Shared → Prop} {s : Shared} (h : wpAny M A t Q E s) (hQ : ∀ a s, Q a s → Q' a s) : wpAny M A t Q' E s := wpAny_mono h hQ fun _ _ x => x
end L2

namespace L2
open PySem PySem.Spec PyProof.Rows
section
variable {X : Cx}

/-! ### names and constants -/
inductive I_tVar (i : Nat) (σ : St) (H : Hp) (Q : VK) : Prop where
  | mk (v : V) (h0_ : σ[i]? = some (some v)) (h1_ : Q v H) : I_tVar i σ H Q
noncomputable def tVar (i : Nat) : TE := fun σ H Q => I_tVar i σ H Q
noncomputable def tC (v : V) : TE := fun _ H Q => Q v H
theorem pe_var {i : Nat} {x : Str} {pos : Pos} (hN : X.N[i]? = some x) (hv : Vis X.env.scope x) (hd : (x == ("__debug__" : Str)) = false := by decide) (hcd : (x == ("__classdict__" : Str)) = false := by decide) : PE X (.Name x pos) (tVar i) := by
  intro pins s σ H Q I h
  obtain ⟨v, e, h⟩ := h
  obtain ⟨m, hn, hl⟩ := I.loc
  obtain ⟨u, r, l⟩ := hl i x v hN e hv
  have fin : EP X pins σ Q u s := ⟨v, H, I, r, h⟩
  rcases l with ⟨hk, hm⟩ | ⟨hk, c, hc, hcell⟩
  · exact wpAny_Name (wpAny_loadName_local I.ok.kind hk hn hm fin) hd
  · rcases hk with hk | hk
    · exact wpAny_Name (wpAny_loadName_cell I.ok.kind hk hc hcell fin) hd
    · exact wpAny_Name (wpAny_loadName_free I.ok.kind hk hc hcell fin hcd) hd
theorem pe_int {i j pos} : PE X (.Constant (.int i) j pos) (tC (.int i)) := fun _ _ _ H _ I h => wpAny_Constant_int ⟨.int i, H, I.tok _, ⟨_, rfl⟩, h⟩
theorem pe_bl {b j pos} : PE X (.Constant (.bool b) j pos) (tC (.bl b)) := fun _ _ _ H _ I h => Constant_bool ⟨.bl b, H, I, rfl, h⟩
theorem pe_non {j pos} : PE X (.Constant .none j pos) (tC .non) := fun _ _ _ H _ I h => Constant_none ⟨.non, H, I, rfl, h⟩
theorem pe_str {x j pos} : PE X (.Constant (.str x) j pos) (tC (.str x)) := fun _ _ _ H _ I h => Calls.Constant_str ⟨.str x, H, I.tok _, ⟨_, rfl⟩, h⟩

/-- a global name of the def -/
noncomputable def Gl (X : Cx) (x : Str) : Prop := X.env.kindOf x = some .globalImplicit
theorem ld_glob {E : Value → Shared → Prop} {pins : List (Addr × Obj)} {s : Shared} {σ : St} {H : Hp} {x : Str} {u : Value} {pos : Pos} {Q : Value → Shared → Prop} (I : Inv X pins σ H s) (hg : Gl X x) (hm : X.mg x = some u) (h : Q u s)
    (hd : (x == ("__debug__" : Str)) = false := by decide) : wpAny (model X.prog X.w) X.A (eval (.Name x pos) X.env) Q E s :=
  Calls.Name_function_global I.ok.kind hg (Calls.loadGlobal_global (by rw [I.ok.glob]; exact I.mod.glob.keeps I.bk) hm h) hd
theorem ld_blt {E : Value → Shared → Prop} {pins : List (Addr × Obj)} {s : Shared} {σ : St} {H : Hp} {x : Str} {u : Value} {pos : Pos} {Q : Value → Shared → Prop} (I : Inv X pins σ H s) (hg : Gl X x) (hm : X.mg x = none) (hv : bootBuiltins x = some u) (h : Q u s)
    (hn : x ≠ "__name__" := by decide) (hd : (x == ("__debug__" : Str)) = false := by decide) : wpAny (model X.prog X.w) X.A (eval (.Name x pos) X.env) Q E s := by
  obtain ⟨mb, h1, h2⟩ := I.mod.blt
  exact Calls.Name_function_global I.ok.kind hg (Calls.loadGlobal_builtin (by rw [I.ok.glob]; exact I.mod.glob.keeps I.bk) hm (by rw [I.ok.blt]; exact h1.keeps I.bk) ((h2 x hn).trans hv) h) hd
/-- a module's constant, a class, a function, as a value -/
theorem pe_glob {x : Str} {v : V} {u : Value} {pos : Pos} (hg : Gl X x) (hm : X.mg x = some u) (r : RelV v u) (hd : (x == ("__debug__" : Str)) = false := by decide) : PE X (.Name x pos) (tC v) :=
  fun _ _ _ H _ I h => ld_glob I hg hm ⟨v, H, I, r, h⟩ hd
theorem pe_bltn {x : Str} {v : V} {u : Value} {pos : Pos} (hg : Gl X x) (hm : X.mg x = none) (hv : bootBuiltins x = some u) (r : RelV v u) (hn : x ≠ "__name__" := by decide) (hd : (x == ("__debug__" : Str)) = false := by decide) : PE X (.Name x pos) (tC v) :=
  fun _ _ _ H _ I h => ld_blt I hg hm hv ⟨v, H, I, r, h⟩ hn hd

/-! ### arithmetic -/
variable {a b : Expr} {ta tb : TE} {pos : Pos}
/-! ### comparisons -/
/-- a comparison as a value, as a test -/
inductive I_tB (x : V) (H1 : Hp) (Q : Bool → Hp → Prop) : Prop where
  | mk (c : Bool) (h0_ : x = .bl c) (h1_ : Q c H1) : I_tB x H1 Q
noncomputable def tB (t : TE) : TT := fun σ H Q => t σ H fun x H1 => I_tB x H1 Q
/-- an expression whose value is a bool, as a test -/
theorem pt_val {e : Expr} {t : TE} (h : PE X e t) (he : ∀ whole, isTrue e X.env whole = (do let v ← whole; standAt e.pos; holding [v] (truthy v)) := by intro _; rfl) : PT X e (tB t) := by
  intro pins s σ H Q I hw
  refine isTrue_plain (thn (h pins s σ H _ I hw) fun v s1 ⟨x, H1, I1, r1, q1⟩ => ?_) (he _)
  obtain ⟨d, rfl, q⟩ := q1
  cases r1
  exact wpAny_truthy_bool ⟨H1, I1, q⟩

/-! ### and, or, not -/
variable {tA tB' : TT} {rest : List Expr}
noncomputable def tAnd (t u : TT) : TT := fun σ H Q => t σ H fun c H1 => if c = true then u σ H1 Q else Q false H1
noncomputable def tOr (t u : TT) : TT := fun σ H Q => t σ H fun c H1 => if c = true then Q true H1 else u σ H1 Q
noncomputable def tNot (t : TT) : TT := fun σ H Q => t σ H fun c H1 => Q (!c) H1
theorem pw_and1 (ha : PT X a tA) : PW X (.BoolOp .And [a] pos) tA := by
  intro wh pins s σ H Q I h
  refine isTrue_and (thn (ha pins s σ H Q I h) fun c s1 e => ?_)
  cases c with
  | true => exact isTrue_and_nil e
  | false => exact e
theorem pw_or1 (ha : PT X a tA) : PW X (.BoolOp .Or [a] pos) tA := by
  intro wh pins s σ H Q I h
  refine isTrue_or (thn (ha pins s σ H Q I h) fun c s1 e => ?_)
  cases c with
  | false => exact isTrue_or_nil e
  | true => exact e
theorem pw_and (ha : PT X a tA) (hb : PW X (.BoolOp .And (b :: rest) pos) tB') : PW X (.BoolOp .And (a :: b :: rest) pos) (tAnd tA tB') := by
  intro wh pins s σ H Q I h
  refine isTrue_and (thn (ha pins s σ H _ I h) fun c s1 ⟨H1, I1, q1⟩ => ?_)
  cases c with
  | true => exact hb wh pins s1 σ H1 Q I1 q1
  | false => exact ⟨H1, I1, q1⟩
theorem pw_or (ha : PT X a tA) (hb : PW X (.BoolOp .Or (b :: rest) pos) tB') : PW X (.BoolOp .Or (a :: b :: rest) pos) (tOr tA tB') := by
  intro wh pins s σ H Q I h
  refine isTrue_or (thn (ha pins s σ H _ I h) fun c s1 ⟨H1, I1, q1⟩ => ?_)
  cases c with
  | true => exact ⟨H1, I1, q1⟩
  | false => exact hb wh pins s1 σ H1 Q I1 q1
theorem pt_not (ha : PT X a tA) : PT X (.UnaryOp .Not a pos) (tNot tA) := by
  intro pins s σ H Q I h
  exact isTrue_not (ha pins s σ H (fun c H1 => Q (!c) H1) I h)
/-- .. as values (bools) -/
noncomputable def tAndV (ta tb : TE) : TE := fun σ H Q => ta σ H fun x H1 => ∃ c, x = .bl c ∧ if c = true then tb σ H1 Q else Q (.bl false) H1
noncomputable def tNotV (ta : TE) : TE := fun σ H Q => ta σ H fun x H1 => ∃ c, x = .bl c ∧ Q (.bl (!c)) H1
theorem pe_one {op} {t : TE} (h : PE X a t) : PE X (.BoolOp op [a] pos) t := fun pins s σ H Q I hw => BoolOp_one (h pins s σ H Q I hw)
theorem pe_and (ha : PE X a ta) (hb : PE X (.BoolOp .And (b :: rest) pos) tb) : PE X (.BoolOp .And (a :: b :: rest) pos) (tAndV ta tb) := by
  intro pins s σ H Q I h
  refine BoolOp_and (thn (ha pins s σ H _ I h) fun v s1 ⟨x, H1, I1, r1, q1⟩ => ?_)
  obtain ⟨c, rfl, q1⟩ := q1
  cases r1
  refine wpAny_truthy_bool ?_
  cases c with
  | true => exact hb pins s1 σ H1 Q I1 q1
  | false => exact ⟨.bl false, H1, I1, rfl, q1⟩
theorem pe_not (ha : PE X a ta) : PE X (.UnaryOp .Not a pos) (tNotV ta) := by
  intro pins s σ H Q I h
  refine UnaryOp_ (thn (ha pins s σ H _ I h) fun v s1 ⟨x, H1, I1, r1, q1⟩ => ?_)
  obtain ⟨c, rfl, q1⟩ := q1
  cases r1
  exact not_of (wpAny_truthy_bool ⟨.bl (!c), H1, I1, rfl, q1⟩)
/-- a if t else b -/
noncomputable def tIf (t : TT) (ta tb : TE) : TE := fun σ H Q => t σ H fun c H1 => if c = true then ta σ H1 Q else tb σ H1 Q
theorem pe_ifExp {c : Expr} (hc : PT X c tA) (ha : PE X a ta) (hb : PE X b tb) : PE X (.IfExp c a b pos) (tIf tA ta tb) := by
  intro pins s σ H Q I h
  refine wpAny_IfExp (thn (hc pins s σ H _ I h) fun d s1 ⟨H1, I1, q1⟩ => ?_)
  cases d with
  | true => exact ha pins s1 σ H1 Q I1 q1
  | false => exact hb pins s1 σ H1 Q I1 q1
end
end L2

namespace L2
open PySem PySem.Spec PyProof.Rows

/-! ### a list, a tuple that is read: tracked, frozen, or an object of the module -/
noncomputable def SqL (K : PySem.W.Frag) (H : Hp) (a : Addr) (xs : List V) : Prop :=
  Rd H a (.lst xs) ∨
    ∃ (o : Obj) (its : Array Value) (n : Nat), K.lookup a = some o ∧ o.cls = .type "list" ∧ o.dict = none ∧ o.data = .seq its n ∧ its.size ≤ sizeLine ∧ Vals xs its.toList
noncomputable def SqT (K : PySem.W.Frag) (H : Hp) (a : Addr) (xs : List V) : Prop :=
  Rd H a (.tup xs) ∨
    ∃ (o : Obj) (its : Array Value) (n : Nat), K.lookup a = some o ∧ o.cls = .type "tuple" ∧ o.data = .seq its n ∧ its.size ≤ sizeLine ∧ Vals xs its.toList
noncomputable def absV : Value → Option V
  | .none => some .non
  | .bool b => some (.bl b)
  | .int i _ => some (.int i)
  | .str x _ => some (.str x)
  | .bytes b _ => some (.byt b)
  | .float b _ => some (.flt b)
  | .ref a => some (.ref a)
  | .type n => some (.ty n)
  | _ => none
theorem RelV.abs {x : V} {u : Value} (r : RelV x u) : absV u = some x := by
  cases x with
  | non => cases r; rfl
  | bl _ => cases r; rfl
  | int _ => obtain ⟨t, rfl⟩ := r; rfl
  | str _ => obtain ⟨t, rfl⟩ := r; rfl
  | byt _ => obtain ⟨t, rfl⟩ := r; rfl
  | flt _ => obtain ⟨t, rfl⟩ := r; rfl
  | ref _ => cases r; rfl
  | ty _ => cases r; rfl
theorem RelV.inj {x y : V} {u : Value} (r : RelV x u) (q : RelV y u) : x = y := Option.some.inj (r.abs.symm.trans q.abs)
theorem Vals.inj : ∀ {xs ys : List V} {us : List Value}, Vals xs us → Vals ys us → xs = ys
  | _, _, _, .nil, .nil => rfl
  | _, _, _, .cons r t, .cons r' t' => by rw [r.inj r', Vals.inj t t']
section
variable {X : Cx} {pins : List (Addr × Obj)} {σ : St} {H : Hp} {s : Shared} {a : Addr} {xs ys : List V}
theorem SqL.of {K : PySem.W.Frag} (h : H a = some (.lst xs)) : SqL K H a xs := .inl (.inl h)
theorem SqT.of {K : PySem.W.Frag} (h : H a = some (.tup xs)) : SqT K H a xs := .inl (.inl h)
theorem Inv.list (I : Inv X pins σ H s) (h : SqL X.K H a xs) : ∃ its : List Value, Vals xs its ∧ PlainL s.heap a its.toArray ∧ xs.length ≤ sizeLine := by
  rcases h with h | ⟨o, its, n, hk, hc, hd, hs, hz, r⟩
  · obtain ⟨z, its, n, r, e⟩ := h.ok I.hok
    exact ⟨its, r, ⟨_, n, e, rfl, rfl, rfl⟩, z⟩
  · refine ⟨its.toList, r, ⟨o, n, I.kIn a o hk, hc, hd, by simpa using hs⟩, ?_⟩
    have e := r.length
    simp only [Array.length_toList] at e
    (first | lia | omega)
theorem Inv.tuple (I : Inv X pins σ H s) (h : SqT X.K H a xs) : ∃ its : List Value, Vals xs its ∧ IsTup s.heap a its.toArray ∧ xs.length ≤ sizeLine := by
  rcases h with h | ⟨o, its, n, hk, hc, hs, hz, r⟩
  · obtain ⟨z, its, r, p⟩ := h.ok I.hok
    exact ⟨its, r, p, z⟩
  · refine ⟨its.toList, r, ⟨o, I.kIn a o hk, hc, n, by simpa using hs⟩, ?_⟩
    have e := r.length
    simp only [Array.length_toList] at e
    (first | lia | omega)
theorem Inv.list_inj (I : Inv X pins σ H s) (h : SqL X.K H a xs) (h' : SqL X.K H a ys) : xs = ys := by
  obtain ⟨its, r, ⟨o, n, e, _, _, d⟩, _⟩ := I.list h
  obtain ⟨its', r', ⟨o', n', e', _, _, d'⟩, _⟩ := I.list h'
  rw [e] at e'; cases e'
  rw [d] at d'
  injection d' with d1 _
  have : its = its' := by simpa using congrArg Array.toList d1
  subst this
  exact r.inj r'
end

/-! ### another wish about exceptions -/
noncomputable abbrev Cx.wish (X : Cx) (E : Value → Shared → Prop) : Cx := { X with xe := E }
/-- no exception leaves -/
noncomputable abbrev Cx.nox (X : Cx) : Cx := X.wish fun _ _ => False
theorem Cx.Ok.wish {X : Cx} (ok : X.Ok) (E : Value → Shared → Prop) : (X.wish E).Ok :=
  ⟨ok.mod, ok.kind, ok.glob, ok.blt, ok.above, ok.inj, ok.has, ok.cab, ok.hd, ok.frames, ok.stk, ok.exf, ok.bs, ok.bsz, ok.noex, ok.exfs, ok.funs, ok.frf⟩
theorem Cx.Ok.unwish {X : Cx} {E : Value → Shared → Prop} (ok : (X.wish E).Ok) : X.Ok :=
  ⟨ok.mod, ok.kind, ok.glob, ok.blt, ok.above, ok.inj, ok.has, ok.cab, ok.hd, ok.frames, ok.stk, ok.exf, ok.bs, ok.bsz, ok.noex, ok.exfs, ok.funs, ok.frf⟩
section
variable {X : Cx} {pins : List (Addr × Obj)} {σ : St} {H : Hp} {s : Shared} {E : Value → Shared → Prop}
theorem Inv.wish (I : Inv X pins σ H s) (E : Value → Shared → Prop) : Inv (X.wish E) pins σ H s := ⟨I.ok.wish E, I.os, I.bare, I.base, I.loc, I.cell, I.free, I.freeC, I.pin, I.hok, I.len⟩
theorem Inv.unwish (I : Inv (X.wish E) pins σ H s) : Inv X pins σ H s := ⟨I.ok.unwish, I.os, I.bare, I.base, I.loc, I.cell, I.free, I.freeC, I.pin, I.hok, I.len⟩
theorem SP.unwish {D : Ends} {f : Flow} {s' : Shared} (h : SP (X.wish E) pins D f s') : SP X pins D f s' := by
  cases f with
  | next => obtain ⟨σ', H', I, q⟩ := h; exact ⟨σ', H', I.unwish, q⟩
  | brk => obtain ⟨σ', H', I, q⟩ := h; exact ⟨σ', H', I.unwish, q⟩
  | cont => obtain ⟨σ', H', I, q⟩ := h; exact ⟨σ', H', I.unwish, q⟩
  | ret u => obtain ⟨v, σ', H', I, r, q⟩ := h; exact ⟨v, σ', H', I.unwish, r, q⟩
theorem PT.nox {e : Expr} {t : TT} (h : PT X.nox e t) : PT X e t := fun pins s σ H Q I hw =>
  wpAny_mono (h pins s σ H Q (I.wish _) hw) (fun _ _ ⟨H', I', q⟩ => ⟨H', I'.unwish, q⟩) fun _ _ z => False.elim z
theorem PSs.nox {st : List Stmt} {t : TS} (h : PSs X.nox st t) : PSs X st t := fun pins s σ H D I hw =>
  wpAny_mono (h pins s σ H D (I.wish _) hw) (fun _ _ q => q.unwish) fun _ _ z => False.elim z
end

/-! ### blocks and small statements -/
section
variable {X : Cx} {st : Stmt} {rest : List Stmt} {t u : TS} {e : Expr} {te : TE} {pos : Pos}
noncomputable def tNext : TS := fun D σ H => D.nx σ H
noncomputable def tSeq (t u : TS) : TS := fun D σ H => t { D with nx := u D } σ H
theorem pss_nil : PSs X [] tNext := fun _ _ σ H _ I h => wpAny_execs_nil ⟨σ, H, I, h⟩
theorem pss_cons (h1 : PS X st t) (h2 : PSs X rest u) : PSs X (st :: rest) (tSeq t u) := by
  intro pins s σ H D I h
  refine wpAny_execs_cons (thn (h1 pins s σ H { D with nx := u D } I h) fun f s1 q => ?_)
  cases f with
  | next =>
    obtain ⟨σ', H', I', q⟩ := q
    exact h2 pins s1 σ' H' D I' q
  | ret v => exact q
  | brk => exact q
  | cont => exact q
theorem pss_one (h1 : PS X st t) : PSs X [st] t := by
  intro pins s σ H D I h
  refine wpAny_execs_cons (thn (h1 pins s σ H D I h) fun f s1 q => ?_)
  cases f with
  | next => exact wpAny_execs_nil q
  | ret v => exact q
  | brk => exact q
  | cont => exact q
noncomputable def tCont : TS := fun D σ H => D.ct σ H
theorem ps_continue : PS X (.Continue pos) tCont := fun _ _ σ H _ I h => wpAny_Continue ⟨σ, H, I, h⟩
/-- in a def's body nothing is shown -/
theorem Inv.quiet {pins : List (Addr × Obj)} {σ : St} {H : Hp} {s : Shared} (I : Inv X pins σ H s) : interactive X.env = false := by simp [interactive, I.ok.kind]
/-- an expression whose value is dropped -/
noncomputable def tDrop (te : TE) : TS := fun D σ H => te σ H fun _ H1 => D.nx σ H1
theorem ps_expr (he : PE X e te) (hs : swapsWith e none pos.line X.env = pure false := by rfl) : PS X (.Expr e pos) (tDrop te) := by
  intro pins s σ H D I h
  exact wpAny_Expr_any (thn (he pins s σ H _ I h) fun v s1 ⟨x, H1, I1, r1, q1⟩ => ⟨σ, H1, I1, q1⟩) I.quiet hs
noncomputable def tRet (te : TE) : TS := fun D σ H => te σ H D.rt
theorem ps_ret (he : PE X e te) : PS X (.Return (some e) pos) (tRet te) := by
  intro pins s σ H D I h
  exact wpAny_Return_some (thn (he pins s σ H _ I h) fun v s1 ⟨x, H1, I1, r1, q1⟩ => ⟨x, σ, H1, I1, r1, q1⟩)
noncomputable def tIfS (c : TT) (t u : TS) : TS := fun D σ H => c σ H fun b H1 => if b = true then t D σ H1 else u D σ H1
theorem ps_if {c : Expr} {a b : List Stmt} {tc : TT} (hc : PT X c tc) (ha : PSs X a t) (hb : PSs X b u) : PS X (.If c a b pos) (tIfS tc t u) := by
  intro pins s σ H D I h
  refine wpAny_If (thn (hc pins s σ H _ I h) fun d s1 ⟨H1, I1, q1⟩ => ?_)
  cases d with
  | true => exact ha pins s1 σ H1 D I1 q1
  | false => exact hb pins s1 σ H1 D I1 q1
/-- code that the proof never comes to -/
noncomputable def tNever : TS := fun _ _ _ => False
theorem ps_never : PS X st tNever := fun _ _ _ _ _ _ h => h.elim
end

/-! ### targets -/
noncomputable abbrev TG := V → St → Hp → (St → Hp → Prop) → Prop
noncomputable abbrev TGs := List V → St → Hp → (St → Hp → Prop) → Prop
noncomputable def PG (X : Cx) (target : Expr) (t : TG) : Prop :=
  ∀ (pins : List (Addr × Obj)) (s : Shared) (σ : St) (H : Hp) (v : V) (u : Value) (Q : St → Hp → Prop), Inv X pins σ H s → RelV v u → t v σ H Q →
    wpAny (model X.prog X.w) X.A (assign target X.env u) (fun _ s' => ∃ σ' H', Inv X pins σ' H' s' ∧ Q σ' H') X.xe s
/-- several targets, one after another -/
noncomputable def PGs (X : Cx) (ts : List Expr) (t : TGs) : Prop :=
  ∀ (pins : List (Addr × Obj)) (s : Shared) (σ : St) (H : Hp) (vs : List V) (us : List Value) (Q : St → Hp → Prop), Inv X pins σ H s → Vals vs us → t vs σ H Q →
    wpAny (model X.prog X.w) X.A (assignInOrder ((assignEach ts X.env).map (·.2)) us) (fun _ s' => ∃ σ' H', Inv X pins σ' H' s' ∧ Q σ' H') X.xe s
/-- o[i] = v, by values -/
noncomputable abbrev TSet := V → V → V → Hp → (Hp → Prop) → Prop
noncomputable def PSet (X : Cx) (t : TSet) : Prop :=
  ∀ (pins : List (Addr × Obj)) (s : Shared) (σ : St) (H : Hp) (o i v : V) (ov iv u : Value) (Q : Hp → Prop), Inv X pins σ H s → RelV o ov → RelV i iv → RelV v u → t o i v H Q →
    wpAny (model X.prog X.w) X.A (setItem ov iv u) (fun _ s' => ∃ H', Inv X pins σ H' s' ∧ Q H') X.xe s
section
variable {X : Cx} {pos : Pos}
noncomputable def gName (i : Nat) : TG := fun v σ H Q => Q (σ.set i (some v)) H
theorem pg_name {i : Nat} {x : Str} (hN : X.N.Nodup) (hi : X.N[i]? = some x) (hx : Loc X.env.scope x) (hf : X.fn x = true ∨ X.env.scope.names.lookup x = some .local := by first | exact .inl rfl | exact .inr rfl | assumption) : PG X (.Name x pos) (gName i) := by
  intro pins s σ H v u Q I r h
  exact wpAny_assign_Name (store_ok I hN hi hx r (fun s' I' => ⟨_, H, I', h⟩) hf)
noncomputable def gNil : TGs := fun vs σ H Q => vs = [] ∧ Q σ H
inductive I_gCons (t : TG) (u : TGs) (vs : List V) (σ : St) (H : Hp) (Q : St → Hp → Prop) : Prop where
  | mk (v : V) (r : List V) (h0_ : vs = v :: r) (h1_ : t v σ H fun σ' H' => u r σ' H' Q) : I_gCons t u vs σ H Q
noncomputable def gCons (t : TG) (u : TGs) : TGs := fun vs σ H Q => I_gCons t u vs σ H Q
theorem pgs_nil : PGs X [] gNil := by
  intro pins s σ H vs us Q I r h
  obtain ⟨e, h⟩ := h
  subst e
  cases r
  exact assignInOrder_nil ⟨σ, H, I, h⟩
theorem pgs_cons {e : Expr} {es : List Expr} {t : TG} {u : TGs} (h1 : PG X e t) (h2 : PGs X es u)
    (hs : (assignEach (e :: es) X.env).map (·.2) = assign e X.env :: (assignEach es X.env).map (·.2) := by rfl) : PGs X (e :: es) (gCons t u) := by
  intro pins s σ H vs us Q I r h
  obtain ⟨v, vr, e1, h⟩ := h
  subst e1
  cases r with
  | cons r rr =>
    rw [hs]
    refine assignInOrder_cons (thn (h1 pins s σ H _ _ _ I r h) fun _ s1 ⟨σ1, H1, I1, q1⟩ => ?_)
    exact h2 pins s1 σ1 H1 _ _ Q I1 rr q1
/-- (a, b, ..) = a tuple of that length -/
inductive I_gTup (K : PySem.W.Frag) (n : Nat) (t : TGs) (v : V) (σ : St) (H : Hp) (Q : St → Hp → Prop) : Prop where
  | mk (a : Addr) (xs : List V) (h0_ : v = .ref a) (h1_ : SqT K H a xs) (h2_ : xs.length = n) (h3_ : t xs σ H Q) : I_gTup K n t v σ H Q
noncomputable def gTup (K : PySem.W.Frag) (n : Nat) (t : TGs) : TG := fun v σ H Q => I_gTup K n t v σ H Q
theorem pg_tup {es : List Expr} {k : Nat} {t : TGs} {n : Nat} (hc : X.calm = true) (h : PGs X es t)
    (hn : (assignEach es X.env).length = n := by rfl) (hst : (assignEach es X.env).findIdx? (·.1) = none := by rfl) : PG X (.Tuple es k pos) (gTup X.K n t) := by
  intro pins s σ H v u Q I r hw
  obtain ⟨a, xs, e1, hq, hl, hw⟩ := hw
  subst e1
  cases r
  obtain ⟨its, rv, ht, hz⟩ := I.tuple hq
  refine assign_Tuple_tuple (I.ok.hd hc) ht (by simp [hn, ← hl, rv.length]) hst fun h' hx => ?_
  have I1 : Inv X pins σ H { s with heap := h' } := I.kept (t' := s.toks) fun b o e => hx b o (Nat.ne_of_lt (Heap.lt_size e)) e
  exact h pins _ σ H xs _ Q I1 (by simpa using rv) hw
/-- o[i] = .. -/
noncomputable def gSub (to ti : TE) (t : TSet) : TG := fun v σ H Q => to σ H fun o H1 => ti σ H1 fun i H2 => t o i v H2 fun H3 => Q σ H3
theorem pg_sub {o i : Expr} {to ti : TE} {t : TSet} (ho : PE X o to) (hi : PE X i ti) (hs : PSet X t)
    (ha : ∀ v, assign (.Subscript o i pos) X.env v = (do
      let ov ← holding [v] (eval o X.env)
      let iv ← holding [v, ov] (eval i X.env)
      standAt pos
      holding [v, ov, iv] (setItem ov iv v)
      release [v, ov, iv] []) := by intro _; rfl) : PG X (.Subscript o i pos) (gSub to ti t) := by
  intro pins s σ H v u Q I r h
  rw [ha]
  refine wpAny_bind (wpAny_holding (thn (ho pins s σ H _ I h) fun ov s1 ⟨x, H1, I1, r1, q1⟩ => ?_))
  refine wpAny_bind (wpAny_holding (thn (hi pins s1 σ H1 _ I1 q1) fun iv s2 ⟨y, H2, I2, r2, q2⟩ => ?_))
  refine wpAny_bind (wpAny_standAt (wpAny_bind (wpAny_holding (thn (hs pins s2 σ H2 x y v ov iv u _ I2 r1 r2 r q2) fun _ s3 ⟨H3, I3, q3⟩ => ?_))))
  exact wpAny_release ⟨σ, H3, I3, q3⟩
/-- target = value -/
noncomputable def tAsg (te : TE) (g : TG) : TS := fun D σ H => te σ H fun x H1 => g x σ H1 D.nx
theorem ps_asg {tg e : Expr} {te : TE} {g : TG} (he : PE X e te) (hg : PG X tg g) (hs : swapsWithSole [tg] e pos.line X.env = pure false := by rfl) (hw : swappedStores [tg] e X.env = pure none := by rfl)
    (h1 : (assignEach [tg] X.env).map (·.2) = [assign tg X.env] := by rfl) : PS X (.Assign [tg] e pos) (tAsg te g) := by
  intro pins s σ H D I h
  refine wpAny_Assign_stores (thn (he pins s σ H _ I h) fun v s1 ⟨x, H1, I1, r1, q1⟩ => ?_) hs hw
  rw [h1]
  exact thn (hg pins s1 σ H1 x v _ I1 r1 q1) fun _ s2 q => q
/-- name = value -/
theorem ps_set {i : Nat} {x : Str} {e : Expr} {te : TE} {pos' : Pos} (hN : X.N.Nodup) (hi : X.N[i]? = some x) (hx : Loc X.env.scope x) (he : PE X e te) (hs : swapsWith e (some (.Name x pos')) pos.line X.env = pure false := by rfl) (hf : X.fn x = true ∨ X.env.scope.names.lookup x = some .local := by first | exact .inl rfl | exact .inr rfl | assumption) :
    PS X (.Assign [.Name x pos'] e pos) (tAsg te (gName i)) := by
  intro pins s σ H D I h
  refine wpAny_Assign_Name (thn (he pins s σ H _ I h) fun v s1 ⟨y, H1, I1, r1, q1⟩ => ?_) hs
  exact store_ok I1 hN hi hx r1 (fun s2 I2 => ⟨_, H1, I2, q1⟩) hf
/-- a, b = x, y with plain local names: stored from the right; the pair itself is not tracked (the opening rows as in PyProof/Rows/TupAssign.lean:23) -/
noncomputable def tPar (i j : Nat) (ta : TA) : TS := fun D σ H => ta σ H fun vs H1 => ∃ v w, vs = [v, w] ∧ D.nx ((σ.set i (some v)).set j (some w)) H1
theorem ps_par {i j : Nat} {x y : Str} {a b : Expr} {ta : TA} {px py pt : Pos} {kt k2 pt2} (hc : X.calm = true) (hN : X.N.Nodup) (hi : X.N[i]? = some x) (hj : X.N[j]? = some y) (hij : i ≠ j)
    (hx : X.env.scope.names.lookup x = some .local) (hy : X.env.scope.names.lookup y = some .local) (ha : PA X [a, b] ta)
    (hw : swappedStores [.Tuple [.Name x px, .Name y py] kt pt] (.Tuple [a, b] k2 pt2) X.env = pure (some [x, y]))
    (hs : swapsWithSole [.Tuple [.Name x px, .Name y py] kt pt] (.Tuple [a, b] k2 pt2) pos.line X.env = pure false := by rfl) :
    PS X (.Assign [.Tuple [.Name x px, .Name y py] kt pt] (.Tuple [a, b] k2 pt2) pos) (tPar i j ta) := by
  intro pins s σ H D I h
  rw [exec_Assign_arm]
  refine wpAny_bind (wpAny_standAt ?_)
  rw [hs]
  refine wpAny_bind (wpAny_pure ?_)
  rw [if_neg (by decide)]
  refine wpAny_bind (Tuple_ (thn (ha _ pins s σ H _ I h) fun us s1 ⟨vs, H1, I1, r1, q1⟩ => ?_))
  obtain ⟨v, w, e1, q1⟩ := q1
  subst e1
  obtain ⟨u1, u2, rfl, rv, rw'⟩ : ∃ u1 u2, us = [u1, u2] ∧ RelV v u1 ∧ RelV w u2 := by
    cases r1 with
    | cons p q =>
      cases q with
      | cons p' q' =>
        cases q'
        exact ⟨_, _, rfl, p, p'⟩
  refine wpAny_newObj_type ?_ (by show 2 ≤ sizeLine; decide)
  have I2 : Inv X pins σ H1 { s1 with heap := s1.heap.push { cls := .type "tuple", data := .seq [u1, u2].toArray } } := I1.kept (t' := s1.toks) fun b o e => Heap.get?_push_of_some _ e
  rw [hw]
  refine wpAny_bind (wpAny_pure ?_)
  show wpAny (model X.prog X.w) X.A (do rule "assign.swapped-stores"; let items ← unpackItems (.ref s1.heap.objs.size) 2 none; assignInOrder [fun v => bindName X.env y v, fun v => bindName X.env x v] items.reverse; pure Flow.next) _ _ _
  refine wpAny_bind (wpAny_rule (wpAny_bind (unpackItems_tuple (items := #[u1, u2]) (I.ok.hd hc) (IsTup.new s1.heap _) fun h' hx' => ?_)))
  have I3 := I2.kept (h' := h') (t' := s1.toks) fun b o e => hx' b o (Nat.ne_of_lt (Heap.lt_size e)) e
  show wpAny _ _ (assignInOrder [fun v => bindName X.env y v, fun v => bindName X.env x v] [u2, u1] >>= fun _ => pure Flow.next) _ _ _
  refine wpAny_bind (assignInOrder_cons (wpAny_bindName (store_ok I3 hN hj (.inl hy) rw' (fun s2 I4 => ?_) (.inr hy))))
  refine assignInOrder_cons (wpAny_bindName (store_ok I4 hN hi (.inl hx) rv (fun s3 I5 => assignInOrder_nil (wpAny_pure ?_)) (.inr hx)))
  rw [List.set_comm _ _ (Ne.symm hij)] at I5
  exact ⟨_, H1, I5, q1⟩
end

/-! ### while -/
section
variable {X : Cx} {pos : Pos}
/-- the invariant W with its measure -/
noncomputable def tWhile (c : TT) (tb : TS) : TS := fun D σ H => ∃ W : Nat → St → Hp → Prop, (∃ m, W m σ H) ∧ ∀ m σ H, W m σ H →
  c σ H fun b H1 => if b = true then ∃ N : St → Hp → Prop, (∀ σ' H', N σ' H' → ∃ m', m' < m ∧ W m' σ' H') ∧ tb { D with nx := N, ct := N, bk := D.nx } σ H1 else D.nx σ H1
theorem ps_while {c : Expr} {body : List Stmt} {tc : TT} {tb : TS} (hp : PassesOwn (model X.prog X.w) X.A X.env X.xe) (hc : PT X c tc) (hb : PSs X body tb) : PS X (.While c body [] pos) (tWhile tc tb) := by
  intro pins s σ H D I h
  obtain ⟨W, ⟨m0, w0⟩, turn⟩ := h
  refine wpAny_While (codeAny_whileLoop (fun n s' => ∃ σ' H', Inv X pins σ' H' s' ∧ W n σ' H') ?_ m0 ⟨σ, H, I, w0⟩)
  rintro n s1 ⟨σ1, H1, I1, w1⟩
  refine wpAny_passesOwn hp (thn (hc pins s1 σ1 H1 _ I1 (turn n σ1 H1 w1)) fun b s2 ⟨H2, I2, q2⟩ => ?_)
  cases b with
  | true =>
    obtain ⟨N, hN, q2⟩ := q2
    rw [if_pos rfl]
    refine wpAny_passesOwn hp (thn (hb pins s2 σ1 H2 _ I2 q2) fun f s3 q3 => ?_)
    cases f with
    | next =>
      obtain ⟨σ3, H3, I3, n3⟩ := q3
      obtain ⟨m', hm, w3⟩ := hN σ3 H3 n3
      exact ⟨m', hm, σ3, H3, I3, w3⟩
    | cont =>
      obtain ⟨σ3, H3, I3, n3⟩ := q3
      obtain ⟨m', hm, w3⟩ := hN σ3 H3 n3
      exact ⟨m', hm, σ3, H3, I3, w3⟩
    | brk => exact q3
    | ret v => exact q3
  | false =>
    rw [if_neg Bool.false_ne_true]
    exact wpAny_execs_nil ⟨σ1, H2, I2, q2⟩
end

/-! ### what a loop or a comprehension walks -/
/-- at turn i: it yields x (the heap may grow), or it stops -/
structure It where
  go : Nat → Hp → Prop
  yld : Nat → Hp → V → Hp → Prop
  stop : Nat → Hp → Prop
/-- the iterator's own objects may turn: they are not the frame's, not pinned, younger than the entry (or a comprehension's own) -/
noncomputable def FpOk (X : Cx) (pins : List (Addr × Obj)) (H : Hp) (b : Addr) : Prop :=
  H b = none ∧ b ≠ X.env.locals ∧ b ∉ X.fs ∧ (b ∈ X.ex ∨ X.s₀.heap.objs.size ≤ b) ∧ (∀ x c, X.env.cells.lookup x = some c → c ≠ b) ∧ ∀ p ∈ X.pn ++ pins, p.1 ≠ b
theorem Inv.fpOk {X : Cx} {pins : List (Addr × Obj)} {σ : St} {H H' : Hp} {s : Shared} {b : Addr} (I : Inv X pins σ H s) (hb : s.heap.objs.size ≤ b) (hn : H' b = none) : FpOk X pins H' b := by
  refine ⟨hn, Nat.ne_of_gt (Nat.lt_of_lt_of_le I.lt hb), I.nofs hb, .inr (Nat.le_trans I.sz hb), fun x c e z => ?_, fun p hp z => ?_⟩
  · obtain ⟨v, q⟩ := I.cell x c e
    exact absurd (Nat.lt_of_lt_of_le q.lt (by rw [z]; exact hb)) (Nat.lt_irrefl _)
  · exact absurd (Nat.lt_of_lt_of_le (Heap.lt_size (I.pin p hp).1) (by rw [z]; exact hb)) (Nat.lt_irrefl _)
structure Turn (P : Program) (w : World) (K : PySem.W.Frag) (tg : Expr) (J : It) (fp : List Addr) (it : Addr) (tn : Nat → Heap → Prop) : Prop where
  mem : it ∈ fp
  obj : ∀ i h, tn i h → ∀ b ∈ fp, ∃ o, h.get? b = some o ∧ ∀ v, o.data ≠ .cell v
  keep : ∀ i h h', tn i h → (∀ b ∈ fp, ∀ o, h.get? b = some o → h'.get? b = some o) → tn i h'
  item : ∀ (X : Cx), X.prog = P → X.w = w → X.K = K → X.calm = true → ∀ (i : Nat) (pins : List (Addr × Obj)) (s : Shared) (σ : St) (H : Hp) (E : Value → Shared → Prop), Inv X pins σ H s → (∀ b ∈ fp, FpOk X pins H b) → tn i s.heap → J.go i H →
    wpAny (model P w) X.A (pyNext (.ref it)) (fun r s1 => ∃ u, r = some u ∧
      wpAny (model P w) X.A (letOwnedTupleGo tg (.ref it) u) (fun _ s2 => ∃ x H', Inv X pins σ H' s2 ∧ RelV x u ∧ J.yld i H x H' ∧ tn (i + 1) s2.heap ∧ ∀ b ∈ fp, H' b = none) E s1) E s
  done : ∀ (X : Cx), X.prog = P → X.w = w → X.K = K → X.calm = true → ∀ (i : Nat) (pins : List (Addr × Obj)) (s : Shared) (σ : St) (H : Hp) (E : Value → Shared → Prop), Inv X pins σ H s → (∀ b ∈ fp, FpOk X pins H b) → tn i s.heap → J.stop i H →
    wpAny (model P w) X.A (pyNext (.ref it)) (fun r s1 => r = none ∧ Inv X pins σ H s1) E s
  self : ∀ (A : Around) (i : Nat) (s : Shared) (Q : Value → Shared → Prop) (E : Value → Shared → Prop), tn i s.heap → Q (.ref it) s → wpAny (model P w) A (pyIter (.ref it)) Q E s
noncomputable abbrev TI := St → Hp → (It → Hp → Prop) → Prop
/-- an iterator has come -/
noncomputable def PIE (X : Cx) (pins : List (Addr × Obj)) (σ : St) (tg : Expr) (R : It → Hp → Prop) (itv : Value) (s2 : Shared) : Prop :=
  ∃ (it : Addr) (fp : List Addr) (tn : Nat → Heap → Prop) (J : It) (H' : Hp), itv = .ref it ∧ Inv X pins σ H' s2 ∧ Turn X.prog X.w X.K tg J fp it tn ∧ tn 0 s2.heap ∧ (∀ b ∈ fp, FpOk X pins H' b) ∧ R J H'
noncomputable def PI (X : Cx) (tg iter : Expr) (wi : TI) : Prop :=
  ∀ (pins : List (Addr × Obj)) (s : Shared) (σ : St) (H : Hp) (R : It → Hp → Prop), Inv X pins σ H s → wi σ H R →
    wpAny (model X.prog X.w) X.A (eval iter X.env) (fun v s1 => wpAny (model X.prog X.w) X.A (pyIter v) (PIE X pins σ tg R) X.xe s1) X.xe s

/-- the step ahead of the store is nothing for an iterator that keeps no tuple -/
theorem go_of {M : Model} {A : Around} {E : Value → Shared → Prop} {s : Shared} {tg : Expr} {it : Addr} {u : Value} {o : Obj} {n : String} {vs : Array Value} {Q : Unit → Shared → Prop} (ho : s.heap.get? it = some o) (hc : o.cls = .type n) (hd : o.data = .fields vs)
    (hn : ["enumerate", "zip", "dict_itemiterator", "dict_reverseitemiterator", "odict_iterator", "itertools.zip_longest", "itertools.pairwise"].contains n = false) (hQ : Q () s) : wpAny M A (letOwnedTupleGo tg (.ref it) u) Q E s := by
  unfold letOwnedTupleGo
  cases tg <;> first
    | exact wpAny_pure hQ
    | (cases u <;> first
        | exact wpAny_pure hQ
        | (refine wpAny_bind (wpAny_load ho ?_)
           rw [hc, hd]
           show wpAny M A (if (["enumerate", "zip", "dict_itemiterator", "dict_reverseitemiterator", "odict_iterator", "itertools.zip_longest", "itertools.pairwise"].contains n && vs[0]? == some (rawInt _)) = true then _ else _) Q E s
           rw [if_neg (by intro h; rw [hn, Bool.false_and] at h; cases h)]
           exact wpAny_pure hQ))

/-- the list at a, as it stands at each turn (a loop may append to it) -/
noncomputable def Itl (K : PySem.W.Frag) (a : Addr) : It :=
  ⟨fun i H => ∃ xs x, SqL K H a xs ∧ xs[i]? = some x, fun i H x H' => H' = H ∧ ∀ xs, SqL K H a xs → xs[i]? = some x, fun i H => ∃ xs, SqL K H a xs ∧ xs.length ≤ i⟩
/-- lo, lo + 1, .. (n of them) -/
noncomputable def Itr (lo : Int) (n : Nat) : It := ⟨fun i _ => i < n, fun i H x H' => H' = H ∧ x = .int (lo + i), fun i _ => n ≤ i⟩
theorem turn_list {P : Program} {w : World} {K : PySem.W.Frag} {tg : Expr} (a it : Addr) : Turn P w K tg (Itl K a) [it] it (fun i h => h.IsListIter it a i) where
  mem := by simp
  obj := fun i h st b hb => by
    have e : b = it := by simpa using hb
    subst e
    obtain ⟨o, e, c, d⟩ := st
    exact ⟨o, e, fun v z => by rw [d] at z; cases z⟩
  keep := fun i h h' st k => st.at fun o e => k it (by simp) o e
  item := by
    intro X hP hw hK hc i pins s σ H E I hf st hg
    subst hP hw hK
    obtain ⟨xs, x, hq, hx⟩ := hg
    obtain ⟨its, rv, p, hz⟩ := I.list hq
    obtain ⟨u, hu, ru⟩ := rv.get hx
    obtain ⟨f0, f1, f2, f3, f4, f5⟩ := hf it (by simp)
    refine wpAny_pyNext_list_item st p.isList (x := u) (by simpa using hu) fun h' st' sb => ?_
    have I1 : Inv X pins σ H { s with heap := h' } := I.turned (t' := s.toks) (fun b o hb e => (sb.2 b hb).trans e) f0 f1 f3 f4 f5
    obtain ⟨o, e, c, d⟩ := id st'
    exact ⟨u, rfl, go_of (s := { s with heap := h' }) e c d (by decide) ⟨x, H, I1, ru, ⟨rfl, fun ys hy => by rw [I.list_inj hy hq]; exact hx⟩, st', fun b hb => (hf b hb).1⟩⟩
  done := by
    intro X hP hw hK hc i pins s σ H E I hf st hg
    subst hP hw hK
    obtain ⟨xs, hq, hx⟩ := hg
    obtain ⟨its, rv, p, hz⟩ := I.list hq
    obtain ⟨f0, f1, f2, f3, f4, f5⟩ := hf it (by simp)
    have hl := rv.length
    exact wpAny_pyNext_list_end (I.ok.hd hc) st p.isList (by simp; (first | lia | omega)) fun h' eb => ⟨rfl, I.turned (t' := s.toks) (fun b o hb e => eb b o hb e) f0 f1 f3 f4 f5⟩
  self := fun _ _ _ _ _ st h => wpAny_pyIter_listiter st h
theorem turn_range {P : Program} {w : World} {K : PySem.W.Frag} {tg : Expr} (it : Addr) (lo : Int) (n : Nat) : Turn P w K tg (Itr lo n) [it] it (fun i h => IsRangeIter h it (lo + (i : Nat) * 1) ((n : Int) - (i : Nat)) 1) where
  mem := by simp
  obj := fun i h st b hb => by
    have e : b = it := by simpa using hb
    subst e
    exact ⟨_, st, fun v z => by
      have z' : Data.fields _ = Data.cell v := z
      cases z'⟩
  keep := fun i h h' st k => k it (by simp) _ st
  item := by
    intro X hP hw hK hc i pins s σ H E I hf st hg
    subst hP hw hK
    obtain ⟨f0, f1, f2, f3, f4, f5⟩ := hf it (by simp)
    have W := Walks.range (prog := X.prog) (w := X.w) (I.ok.hd hc) it lo 1 n
    refine W.item i s _ _ hg st fun v h' tk hv st' kk => ?_
    obtain ⟨t, rfl⟩ := hv
    have I1 : Inv X pins σ H { s with heap := h', toks := tk } := I.turned (fun b o hb e => kk b o (by simpa using hb) e) f0 f1 f3 f4 f5
    refine ⟨_, rfl, go_of (s := { s with heap := h', toks := tk }) (n := "range_iterator") st' rfl rfl (by decide) ⟨.int (lo + i), H, I1, ⟨t, ?_⟩, ⟨rfl, rfl⟩, st', fun b hb => (hf b hb).1⟩⟩
    rw [Int.mul_one]
  done := by
    intro X hP hw hK hc i pins s σ H E I hf st hg
    subst hP hw hK
    obtain ⟨f0, f1, f2, f3, f4, f5⟩ := hf it (by simp)
    exact wpAny_pyNext_range_end (I.ok.hd hc) st (by have : n ≤ i := hg; (first | lia | omega)) fun h' eb => ⟨rfl, I.turned (t' := s.toks) (fun b o hb e => eb b o hb e) f0 f1 f3 f4 f5⟩
  self := fun _ _ _ _ _ st h => wpAny_pyIter_rangeiter st h
end L2

namespace L2
open PySem PySem.Spec PyProof.Rows
section
variable {X : Cx} {tg : Expr}
inductive I_iList (K : PySem.W.Frag) (x : V) (H1 : Hp) (R : It → Hp → Prop) : Prop where
  | mk (a : Addr) (h0_ : x = .ref a) (h1_ : (∃ xs, SqL K H1 a xs)) (h2_ : R (Itl K a) H1) : I_iList K x H1 R
noncomputable def iList (K : PySem.W.Frag) (tl : TE) : TI := fun σ H R => tl σ H fun x H1 => I_iList K x H1 R
theorem pi_list {l : Expr} {tl : TE} (hl : PE X l tl) : PI X tg l (iList X.K tl) := by
  intro pins s σ H R I h
  refine thn (hl pins s σ H _ I h) fun v s1 ⟨x, H1, I1, r1, q1⟩ => ?_
  obtain ⟨a, e, ⟨xs, hq⟩, q⟩ := q1
  subst e
  cases r1
  obtain ⟨its, rv, p, hz⟩ := I1.list hq
  refine wpAny_pyIter_list p.isList ?_
  refine ⟨s1.heap.objs.size, [s1.heap.objs.size], _, _, H1, rfl, I1.kept (t' := s1.toks) fun b o e => Heap.get?_push_of_some _ e, turn_list a _, ⟨_, Heap.get?_push_size _ rfl, rfl, rfl⟩, fun b hb => ?_, q⟩
  have e : b = s1.heap.objs.size := by simpa using hb
  subst e
  exact I1.fpOk (Nat.le_refl _) (I1.hok.fresh (Nat.le_refl _))
/-- a range object just made, walked -/
theorem range_it {pins : List (Addr × Obj)} {σ : St} {H : Hp} {s : Shared} {R : It → Hp → Prop} {E : Value → Shared → Prop} {lo hi : Int} {t u v : Tok} {tk : Nat} (I : Inv X pins σ H s) (h1 : -(2 ^ 62) ≤ lo) (h2 : lo < 2 ^ 62) (h3 : -(2 ^ 62) ≤ hi) (h4 : hi < 2 ^ 62)
    (q : R (Itr lo (hi - lo).toNat) H) : wpAny (model X.prog X.w) X.A (pyIter (.ref s.heap.objs.size)) (PIE X pins σ tg R) E { s with heap := s.heap.push { cls := .type "range", data := .fields #[.int lo t, .int hi u, .int 1 v] }, toks := tk } := by
  refine wpAny_pyIter_range (IsRange.new ..) (small_one h1 h2 h3 h4) ?_
  have I1 : Inv X pins σ H { s with heap := s.heap.push { cls := .type "range", data := .fields #[.int lo t, .int hi u, .int 1 v] }, toks := tk } := I.kept fun b o e => Heap.get?_push_of_some _ e
  refine ⟨(s.heap.push { cls := .type "range", data := .fields #[.int lo t, .int hi u, .int 1 v] }).objs.size, [(s.heap.push { cls := .type "range", data := .fields #[.int lo t, .int hi u, .int 1 v] }).objs.size], _, _, H, rfl,
    I1.kept (t' := tk) fun b o e => Heap.get?_push_of_some _ e, turn_range _ lo (hi - lo).toNat, ?_, fun b hb => ?_, q⟩
  · have e1 : lo + ((0 : Nat) : Int) * 1 = lo := by simp
    have e2 : (((hi - lo).toNat : Nat) : Int) - ((0 : Nat) : Int) = Builtin.Range.rangeSize lo hi 1 := by rw [rangeSize_one]; split <;> (first | lia | omega)
    show IsRangeIter _ _ (lo + ((0 : Nat) : Int) * 1) ((((hi - lo).toNat : Nat) : Int) - ((0 : Nat) : Int)) 1
    rw [e1, e2]
    exact Heap.get?_push_size _ rfl
  · have e : b = (s.heap.push { cls := .type "range", data := .fields #[.int lo t, .int hi u, .int 1 v] }).objs.size := by simpa using hb
    subst e
    exact I1.fpOk (Nat.le_refl _) (I1.hok.fresh (Nat.le_refl _))
inductive I_iRng1 (vs : List V) (H1 : Hp) (R : It → Hp → Prop) : Prop where
  | mk (j : Int) (h0_ : vs = [.int j]) (h1_ : -(2 ^ 62) ≤ j) (h2_ : j < 2 ^ 62) (h3_ : R (Itr 0 j.toNat) H1) : I_iRng1 vs H1 R
noncomputable def iRng1 (ta : TA) : TI := fun σ H R => ta σ H fun vs H1 => I_iRng1 vs H1 R
noncomputable def iRng2 (ta : TA) : TI := fun σ H R => ta σ H fun vs H1 => ∃ i j : Int, vs = [.int i, .int j] ∧ (-(2 ^ 62) ≤ i ∧ i < 2 ^ 62 ∧ -(2 ^ 62) ≤ j ∧ j < 2 ^ 62) ∧ R (Itr i (j - i).toNat) H1
theorem pi_range1 {a : Expr} {ta : TA} {p pos : Pos} (hg : Gl X "range") (hm : X.mg "range" = none) (ha : PA X [a] ta) (hs : starEach [a] X.env = [(false, eval a X.env)] := by rfl) : PI X tg (.Call (.Name "range" p) [a] [] pos) (iRng1 ta) := by
  intro pins s σ H R I h
  refine Call_ (ld_blt I hg hm boot_range (PyProof.Rows.callWith_type1 (thn (ha pos pins s σ H _ I h) fun us s1 ⟨vs, H1, I1, r1, q1⟩ => ?_) hs rfl))
  obtain ⟨j, e, q1, q2, q⟩ := q1
  subst e
  cases r1 with
  | cons r rr =>
    cases rr
    obtain ⟨t, rfl⟩ := r
    exact call_range_1 (range_it I1 (by (first | lia | omega)) (by (first | lia | omega)) q1 q2 (by simpa using q))
theorem pi_range2 {a b : Expr} {ta : TA} {p pos : Pos} (hg : Gl X "range") (hm : X.mg "range" = none) (ha : PA X [a, b] ta) (hs : starEach [a, b] X.env = [(false, eval a X.env), (false, eval b X.env)] := by rfl) (hs2 : starEach [b] X.env = [(false, eval b X.env)] := by rfl) :
    PI X tg (.Call (.Name "range" p) [a, b] [] pos) (iRng2 ta) := by
  intro pins s σ H R I h
  refine Call_ (ld_blt I hg hm boot_range (PyProof.Rows.callWith_type1 (thn (ha pos pins s σ H _ I h) fun us s1 ⟨vs, H1, I1, r1, q1⟩ => ?_) (by rw [hs, hs2]) (by rw [hs2]; rfl)))
  obtain ⟨i, j, e, ⟨q1, q2, q3, q4⟩, q⟩ := q1
  subst e
  cases r1 with
  | cons r rr =>
    cases rr with
    | cons r' rr =>
      cases rr
      obtain ⟨t, rfl⟩ := r
      obtain ⟨t', rfl⟩ := r'
      exact call_range_2 (range_it I1 q1 q2 q3 q4 q)

/-! ### for -/
/-- W: the invariant by the turn and a measure; N: what the body is to reach -/
noncomputable def tFor (wi : TI) (g : TG) (tb : TS) : TS := fun D σ H => wi σ H fun J H1 => ∃ W : Nat → Nat → St → Hp → Prop, (∃ m, W 0 m σ H1) ∧ ∀ i m σ H, W i m σ H →
  (J.stop i H ∧ D.nx σ H) ∨ (J.go i H ∧ ∃ N : St → Hp → Prop, (∀ σ' H', N σ' H' → ∃ m', m' < m ∧ W (i + 1) m' σ' H') ∧ ∀ x H', J.yld i H x H' → g x σ H' fun σ2 H2 => tb { D with nx := N, ct := N, bk := D.nx } σ2 H2)
/-- the records at fp as they stand -/
noncomputable def pinsAt (fp : List Addr) (h : Heap) : List (Addr × Obj) := fp.filterMap fun b => (h.get? b).map fun o => (b, o)
theorem mem_pinsAt {fp : List Addr} {h : Heap} {b : Addr} {o : Obj} (hb : b ∈ fp) (e : h.get? b = some o) : (b, o) ∈ pinsAt fp h := List.mem_filterMap.mpr ⟨b, hb, by rw [e]; rfl⟩
theorem of_pinsAt {fp : List Addr} {h : Heap} {p : Addr × Obj} (hp : p ∈ pinsAt fp h) : p.1 ∈ fp ∧ h.get? p.1 = some p.2 := by
  obtain ⟨b, hb, e⟩ := List.mem_filterMap.mp hp
  cases q : h.get? b with
  | none => rw [q] at e; cases e
  | some o =>
    rw [q] at e
    have e' : (b, o) = p := Option.some.inj e
    subst e'
    exact ⟨hb, q⟩
theorem Inv.pinned {pins : List (Addr × Obj)} {σ : St} {H : Hp} {s : Shared} {fp : List Addr} (I : Inv X pins σ H s) (hf : ∀ b ∈ fp, FpOk X pins H b) (ho : ∀ b ∈ fp, ∃ o, s.heap.get? b = some o ∧ ∀ v, o.data ≠ .cell v) : Inv X (pins ++ pinsAt fp s.heap) σ H s :=
  I.pins_of fun p hp => (List.mem_append.mp hp).elim (fun z => I.pin p (List.mem_append_right _ z)) fun z => by
    obtain ⟨hb, e⟩ := of_pinsAt z
    obtain ⟨f0, f1, f2, _⟩ := hf p.1 hb
    obtain ⟨o, e', d⟩ := ho p.1 hb
    rw [e] at e'; cases e'
    exact ⟨e, f0, f1, f2, d⟩
theorem Inv.unpinned {pins pl : List (Addr × Obj)} {σ : St} {H : Hp} {s : Shared} (I : Inv X (pins ++ pl) σ H s) : Inv X pins σ H s := I.pins_of fun p hp => I.pin p (List.mem_append_right _ (List.mem_append_left _ hp))
theorem ps_for {iter : Expr} {body : List Stmt} {wi : TI} {g : TG} {tb : TS} {pos : Pos} (hp : PassesOwn (model X.prog X.w) X.A X.env X.xe) (hc : X.calm = true) (hi : PI X tg iter wi) (hg : PG X tg g) (hb : PSs X body tb)
    (hs : ∀ x, foldedSetIterable iter X.env x = pure x := by intro _; rfl) : PS X (.For tg iter body [] pos) (tFor wi g tb) := by
  intro pins s σ H D I h
  refine wpAny_For (thn (hi pins s σ H _ I h) fun v s1 h1 => thn h1 fun itv s2 h2 => ?_) hs
  obtain ⟨it, fp, tn, J, H2, e, I2, T, st2, f2, W, ⟨m0, w0⟩, turn⟩ := h2
  subst e
  -- what stays true of the iterator's objects through the loop
  have stat : ∀ {H' : Hp}, (∀ b ∈ fp, H' b = none) → ∀ b ∈ fp, FpOk X pins H' b := fun hn b hb => ⟨hn b hb, (f2 b hb).2⟩
  refine codeAny_forLoop_any (fun n s' => ∃ i σ' H', Inv X pins σ' H' s' ∧ tn i s'.heap ∧ (∀ b ∈ fp, H' b = none) ∧ W i n σ' H') ?_ m0 ⟨0, σ, H2, I2, st2, fun b hb => (f2 b hb).1, w0⟩
  rintro n s3 ⟨i, σ3, H3, I3, st3, fr3, w3⟩
  rcases turn i n σ3 H3 w3 with ⟨stop, qn⟩ | ⟨go, N, hN, step⟩
  · refine wpAny_passesOwn hp (thn (T.done X rfl rfl rfl hc i pins s3 σ3 H3 X.xe I3 (stat fr3) st3 stop) fun r s4 ⟨hr, I4⟩ => ?_)
    subst hr
    exact wpAny_execs_nil ⟨σ3, H3, I4, qn⟩
  · refine wpAny_passesOwn hp (thn (T.item X rfl rfl rfl hc i pins s3 σ3 H3 X.xe I3 (stat fr3) st3 go) fun r s4 ⟨u, hr, h4⟩ => ?_)
    subst hr
    refine wpAny_passesOwn hp (thn h4 fun _ s5 ⟨x, H5, I5, r5, y5, st5, fr5⟩ => ?_)
    have I5' := I5.pinned (stat fr5) (T.obj _ _ st5)
    refine wpAny_passesOwn hp (thn (hg _ s5 σ3 H5 x u _ I5' r5 (step x H5 y5)) fun _ s6 ⟨σ6, H6, I6, q6⟩ => ?_)
    refine wpAny_passesOwn hp (thn (hb _ s6 σ6 H6 _ I6 q6) fun f s7 q7 => ?_)
    have again : ∀ {σ7 : St} {H7 : Hp}, Inv X (pins ++ pinsAt fp s5.heap) σ7 H7 s7 → N σ7 H7 → ∃ m, m < n ∧ ∃ i σ' H', Inv X pins σ' H' s7 ∧ tn i s7.heap ∧ (∀ b ∈ fp, H' b = none) ∧ W i m σ' H' := fun {σ7 H7} I7 n7 => by
      obtain ⟨m', hm, w7⟩ := hN σ7 H7 n7
      refine ⟨m', hm, i + 1, σ7, H7, I7.unpinned, T.keep _ _ _ st5 fun b hb o e => (I7.pin (b, o) (List.mem_append_right _ (List.mem_append_right _ (mem_pinsAt hb e)))).1, fun b hb => ?_, w7⟩
      obtain ⟨o, e, d⟩ := T.obj _ _ st5 b hb
      exact (I7.pin (b, o) (List.mem_append_right _ (List.mem_append_right _ (mem_pinsAt hb e)))).2.1
    cases f with
    | next => obtain ⟨σ7, H7, I7, n7⟩ := q7; exact again I7 n7
    | cont => obtain ⟨σ7, H7, I7, n7⟩ := q7; exact again I7 n7
    | brk => obtain ⟨σ7, H7, I7, q7⟩ := q7; exact ⟨σ7, H7, I7.unpinned, q7⟩
    | ret v => obtain ⟨x7, σ7, H7, I7, r7, q7⟩ := q7; exact ⟨x7, σ7, H7, I7.unpinned, r7, q7⟩
end

/-! ### the forms one uses -/
/-- over a list that the body leaves as it is -/
theorem for_list {K : PySem.W.Frag} {a : Addr} {xs : List V} {g : TG} {tb : TS} {D : Ends} {σ : St} {H : Hp} (Pv : Nat → St → Hp → Prop) (h0 : Pv 0 σ H) (hl : ∀ i σ H, i ≤ xs.length → Pv i σ H → SqL K H a xs)
    (hs : ∀ i x σ H, xs[i]? = some x → Pv i σ H → g x σ H fun σ2 H2 => tb { D with nx := Pv (i + 1), ct := Pv (i + 1), bk := D.nx } σ2 H2) (hd : ∀ σ H, Pv xs.length σ H → D.nx σ H) :
    ∃ W : Nat → Nat → St → Hp → Prop, (∃ m, W 0 m σ H) ∧ ∀ i m σ H, W i m σ H →
      ((Itl K a).stop i H ∧ D.nx σ H) ∨ ((Itl K a).go i H ∧ ∃ N : St → Hp → Prop, (∀ σ' H', N σ' H' → ∃ m', m' < m ∧ W (i + 1) m' σ' H') ∧ ∀ x H', (Itl K a).yld i H x H' → g x σ H' fun σ2 H2 => tb { D with nx := N, ct := N, bk := D.nx } σ2 H2) := by
  refine ⟨fun i m σ H => m = xs.length - i ∧ i ≤ xs.length ∧ Pv i σ H, ⟨xs.length, by simp, Nat.zero_le _, h0⟩, ?_⟩
  rintro i m σ H ⟨rfl, hi, p⟩
  have q := hl i σ H hi p
  by_cases hlt : i < xs.length
  · refine .inr ⟨⟨xs, xs[i], q, by simp [hlt]⟩, Pv (i + 1), fun σ' H' p' => ⟨xs.length - (i + 1), by (first | lia | omega), rfl, hlt, p'⟩, fun x H' y => ?_⟩
    obtain ⟨e, y⟩ := y
    subst e
    exact hs i x σ _ (y xs q) p
  · have e : i = xs.length := by (first | lia | omega)
    subst e
    exact .inl ⟨⟨xs, q, Nat.le_refl _⟩, hd σ H p⟩
theorem for_range {lo : Int} {n : Nat} {g : TG} {tb : TS} {D : Ends} {σ : St} {H : Hp} (Pv : Nat → St → Hp → Prop) (h0 : Pv 0 σ H)
    (hs : ∀ i σ H, i < n → Pv i σ H → g (.int (lo + i)) σ H fun σ2 H2 => tb { D with nx := Pv (i + 1), ct := Pv (i + 1), bk := D.nx } σ2 H2) (hd : ∀ σ H, Pv n σ H → D.nx σ H) :
    ∃ W : Nat → Nat → St → Hp → Prop, (∃ m, W 0 m σ H) ∧ ∀ i m σ H, W i m σ H →
      ((Itr lo n).stop i H ∧ D.nx σ H) ∨ ((Itr lo n).go i H ∧ ∃ N : St → Hp → Prop, (∀ σ' H', N σ' H' → ∃ m', m' < m ∧ W (i + 1) m' σ' H') ∧ ∀ x H', (Itr lo n).yld i H x H' → g x σ H' fun σ2 H2 => tb { D with nx := N, ct := N, bk := D.nx } σ2 H2) := by
  refine ⟨fun i m σ H => m = n - i ∧ i ≤ n ∧ Pv i σ H, ⟨n, by simp, Nat.zero_le _, h0⟩, ?_⟩
  rintro i m σ H ⟨rfl, hi, p⟩
  by_cases hlt : i < n
  · refine .inr ⟨hlt, Pv (i + 1), fun σ' H' p' => ⟨n - (i + 1), by (first | lia | omega), rfl, hlt, p'⟩, fun x H' y => ?_⟩
    obtain ⟨e, y⟩ := y
    subst e y
    exact hs i σ _ hlt p
  · have e : i = n := by (first | lia | omega)
    subst e
    exact .inl ⟨Nat.le_refl _, hd σ H p⟩
end L2

namespace L2
open PySem PySem.Spec PyProof.Rows

noncomputable abbrev R2 := V → V → Hp → VK → Prop
/-- a two-place operation on values: f is binaryOp op, inplaceOp op or compareOp op -/
noncomputable def OpR (X : Cx) (f : Value → Value → Sem Value) (r : R2) : Prop :=
  ∀ (pins : List (Addr × Obj)) (s : Shared) (σ : St) (H : Hp) (x y : V) (v u : Value) (Q : VK), Inv X pins σ H s → RelV x v → RelV y u → r x y H Q →
    wpAny (model X.prog X.w) X.A (f v u) (EP X pins σ Q) X.xe s
/-- a one-place operation -/
noncomputable def UnR (X : Cx) (f : Value → Sem Value) (r : V → Hp → VK → Prop) : Prop :=
  ∀ (pins : List (Addr × Obj)) (s : Shared) (σ : St) (H : Hp) (x : V) (v : Value) (Q : VK), Inv X pins σ H s → RelV x v → r x H Q →
    wpAny (model X.prog X.w) X.A (f v) (EP X pins σ Q) X.xe s
/-- a call of a value that is known (a builtin, a type) with values -/
noncomputable def CallR (X : Cx) (f : Value) (r : List V → Hp → VK → Prop) : Prop :=
  ∀ (pins : List (Addr × Obj)) (s : Shared) (σ : St) (H : Hp) (xs : List V) (us : List Value) (Q : VK), Inv X pins σ H s → Vals xs us → r xs H Q →
    wpAny (model X.prog X.w) X.A (call f us) (EP X pins σ Q) X.xe s
noncomputable def tOp (r : R2) (ta tb : TE) : TE := fun σ H Q => ta σ H fun x H1 => tb σ H1 fun y H2 => r x y H2 Q
noncomputable def tUn (r : V → Hp → VK → Prop) (ta : TE) : TE := fun σ H Q => ta σ H fun x H1 => r x H1 Q
/-- ints in, under C, and a value out -/
inductive I_rI (C : Int → Int → Prop) (g : Int → Int → V) (x y : V) (H : Hp) (Q : VK) : Prop where
  | mk (i j : Int) (h0_ : x = .int i) (h1_ : y = .int j) (h2_ : C i j) (h3_ : Q (g i j) H) : I_rI C g x y H Q
noncomputable def rI (C : Int → Int → Prop) (g : Int → Int → V) : R2 := fun x y H Q => I_rI C g x y H Q
inductive I_rI0 (g : Int → Int → V) (x y : V) (H : Hp) (Q : VK) : Prop where
  | mk (i j : Int) (h0_ : x = .int i) (h1_ : y = .int j) (h2_ : Q (g i j) H) : I_rI0 g x y H Q
noncomputable def rI0 (g : Int → Int → V) : R2 := fun x y H Q => I_rI0 g x y H Q
inductive I_rU (g : Int → V) (x : V) (H : Hp) (Q : VK) : Prop where
  | mk (i : Int) (h0_ : x = .int i) (h1_ : Q (g i) H) : I_rU g x H Q
noncomputable def rU (g : Int → V) : V → Hp → VK → Prop := fun x H Q => I_rU g x H Q

section
variable {X : Cx} {a b c : Expr} {ta tb tc : TE} {pos : Pos}

theorem binT (ha : PE X a ta) (hb : PE X b tb) {pins : List (Addr × Obj)} {s : Shared} {σ : St} {H : Hp} {R : V → V → Hp → Prop} (I : Inv X pins σ H s)
    (h : ta σ H fun x H1 => tb σ H1 fun y H2 => R x y H2) {Q : Value → Shared → Prop} {f : Value → Value → Sem Value}
    (hf : ∀ v u s2 x y H2, Inv X pins σ H2 s2 → RelV x v → RelV y u → R x y H2 → wpAny (model X.prog X.w) X.A (f v u) Q X.xe s2) :
    wpAny (model X.prog X.w) X.A (eval a X.env) (fun v s₁ => wpAny (model X.prog X.w) X.A (eval b X.env) (fun u s₂ => wpAny (model X.prog X.w) X.A (f v u) Q X.xe s₂) X.xe s₁) X.xe s := by
  refine thn (ha pins s σ H _ I h) fun v s1 ⟨x, H1, I1, r1, q1⟩ => ?_
  refine thn (hb pins s1 σ H1 _ I1 q1) fun u s2 ⟨y, H2, I2, r2, q2⟩ => ?_
  exact hf v u s2 x y H2 I2 r1 r2 q2

theorem pe_op {op : Operator} {r : R2} (ho : OpR X (binaryOp op) r) (ha : PE X a ta) (hb : PE X b tb) : PE X (.BinOp a op b pos) (tOp r ta tb) := by
  intro pins s σ H Q I h
  exact wpAny_BinOp (binT ha hb I h fun v u s2 x y H2 I2 rx ry q => ho pins s2 σ H2 x y v u Q I2 rx ry q)
theorem pe_un {op : UnaryOp} {r : V → Hp → VK → Prop} (ho : UnR X (unaryOp op) r) (ha : PE X a ta) : PE X (.UnaryOp op a pos) (tUn r ta) := by
  intro pins s σ H Q I h
  exact UnaryOp_ (thn (ha pins s σ H _ I h) fun v s1 ⟨x, H1, I1, r1, q1⟩ => ho pins s1 σ H1 x v Q I1 r1 q1)
/-! ### ints -/
theorem opI {f : Value → Value → Sem Value} {C : Int → Int → Prop} {g : Int → Int → Int}
    (rule : ∀ (i j : Int) (t u : Tok) (s : Shared) (Q : Value → Shared → Prop) (E : Value → Shared → Prop), C i j → Q (.int (g i j) s.toks) { s with toks := s.toks + 1 } → wpAny (model X.prog X.w) X.A (f (.int i t) (.int j u)) Q E s) :
    OpR X f (rI C fun i j => .int (g i j)) := by
  intro pins s σ H x y v u Q I rx ry h
  obtain ⟨i, j, rfl, rfl, hc, q⟩ := h
  obtain ⟨t, rfl⟩ := rx
  obtain ⟨t', rfl⟩ := ry
  exact rule i j t t' s _ _ hc ⟨.int (g i j), H, I.tok _, ⟨_, rfl⟩, q⟩
theorem opI0 {f : Value → Value → Sem Value} {g : Int → Int → Int}
    (rule : ∀ (i j : Int) (t u : Tok) (s : Shared) (Q : Value → Shared → Prop) (E : Value → Shared → Prop), Q (.int (g i j) s.toks) { s with toks := s.toks + 1 } → wpAny (model X.prog X.w) X.A (f (.int i t) (.int j u)) Q E s) :
    OpR X f (rI0 fun i j => .int (g i j)) := by
  intro pins s σ H x y v u Q I rx ry h
  obtain ⟨i, j, rfl, rfl, q⟩ := h
  obtain ⟨t, rfl⟩ := rx
  obtain ⟨t', rfl⟩ := ry
  exact rule i j t t' s _ _ ⟨.int (g i j), H, I.tok _, ⟨_, rfl⟩, q⟩
theorem opB0 {f : Value → Value → Sem Value} {g : Int → Int → Bool}
    (rule : ∀ (i j : Int) (t u : Tok) (s : Shared) (Q : Value → Shared → Prop) (E : Value → Shared → Prop), Q (.bool (g i j)) s → wpAny (model X.prog X.w) X.A (f (.int i t) (.int j u)) Q E s) :
    OpR X f (rI0 fun i j => .bl (g i j)) := by
  intro pins s σ H x y v u Q I rx ry h
  obtain ⟨i, j, rfl, rfl, q⟩ := h
  obtain ⟨t, rfl⟩ := rx
  obtain ⟨t', rfl⟩ := ry
  exact rule i j t t' s _ _ ⟨.bl (g i j), H, I, rfl, q⟩

theorem two_pow_nn (k : Nat) : (0 : Int) ≤ 2 ^ k := by
  rw [two_pow_cast]
  exact Int.natCast_nonneg _

theorem op_add : OpR X (binaryOp .Add) (rI0 fun i j => .int (i + j)) := opI0 fun _ _ _ _ _ _ _ q => add_int q
theorem op_sub : OpR X (binaryOp .Sub) (rI0 fun i j => .int (i - j)) := opI0 fun _ _ _ _ _ _ _ q => sub_int q
theorem op_modN : OpR X (binaryOp .Mod) (rI (fun _ j => j ≠ 0) fun i j => .int (i.fmod j)) := opI fun _ _ _ _ _ _ _ hc q => mod_int' hc q
theorem op_shr : OpR X (binaryOp .RShift) (rI (fun _ j => 0 ≤ j) fun i j => .int (i / 2 ^ j.toNat)) := opI fun i j _ _ _ _ _ hc q =>
  rshift_int hc (by rw [Int.fdiv_eq_ediv_of_nonneg i (two_pow_nn _)]; exact q)
theorem unI {f : Value → Sem Value} {g : Int → Int}
    (rule : ∀ (i : Int) (t : Tok) (s : Shared) (Q : Value → Shared → Prop) (E : Value → Shared → Prop), Q (.int (g i) s.toks) { s with toks := s.toks + 1 } → wpAny (model X.prog X.w) X.A (f (.int i t)) Q E s) :
    UnR X f (rU fun i => .int (g i)) := by
  intro pins s σ H x v Q I rx h
  obtain ⟨i, rfl, q⟩ := h
  obtain ⟨t, rfl⟩ := rx
  exact rule i t s _ _ ⟨.int (g i), H, I.tok _, ⟨_, rfl⟩, q⟩
theorem un_neg : UnR X (unaryOp .USub) (rU fun i => .int (-i)) := unI fun _ _ _ _ _ q => neg_int q
/-! ### bools among ints: n += (a < b) -/
end

/-! ### comparisons -/
/-- the scalars that == tells apart as data does -/
noncomputable def scal : V → V → Bool
  | .non, .non => true | .non, .int _ => true | .int _, .non => true | .non, .bl _ => true | .bl _, .non => true | .non, .str _ => true | .str _, .non => true
  | .int _, .int _ => true | .bl _, .bl _ => true | .str _, .str _ => true | .byt _, .byt _ => true
  | .int _, .str _ => true | .str _, .int _ => true | .bl _, .str _ => true | .str _, .bl _ => true
  | _, _ => false
noncomputable def rEq : R2 := fun x y H Q => scal x y = true ∧ Q (.bl (decide (x = y))) H
noncomputable def rNe : R2 := fun x y H Q => scal x y = true ∧ Q (.bl (!decide (x = y))) H

theorem dec_int {i j : Int} : decide (V.int i = V.int j) = (i == j) := by
  rw [Bool.eq_iff_iff]
  simp
theorem dec_bl {i j : Bool} : decide (V.bl i = V.bl j) = (i == j) := by
  rw [Bool.eq_iff_iff]
  simp
theorem dec_str {i j : Str} : decide (V.str i = V.str j) = (i == j) := by
  rw [Bool.eq_iff_iff]
  simp
theorem dec_byt {i j : Array UInt8} : decide (V.byt i = V.byt j) = (i.toList == j.toList) := by
  rw [Bool.eq_iff_iff]
  cases i
  cases j
  simp

section
variable {X : Cx} {a b c : Expr} {ta tb tc : TE} {pos : Pos}
theorem fin_bl {pins : List (Addr × Obj)} {σ : St} {H : Hp} {s : Shared} {Q : VK} {k k' : Bool} (I : Inv X pins σ H s) (q : Q (.bl k) H) (e : k = k') : EP X pins σ Q (.bool k') s := by
  subst e
  exact ⟨.bl k, H, I, rfl, q⟩
theorem op_eq : OpR X (compareOp .Eq) rEq := by
  intro pins s σ H x y v u Q I rx ry h
  obtain ⟨hs, q⟩ := h
  cases x with
  | non =>
    cases rx
    cases y with
    | non => cases ry; exact PySem.EqNone.eq_none_none (fin_bl I q (by simp))
    | bl j => cases ry; exact PySem.EqNone.eq_none_bool (fin_bl I q (by simp))
    | int j => obtain ⟨t', rfl⟩ := ry; exact PySem.EqNone.eq_none_int (fin_bl I q (by simp))
    | str j => obtain ⟨t', rfl⟩ := ry; exact PySem.EqNone.eq_none_str (fin_bl I q (by simp))
    | _ => exact absurd (show false = true from hs) Bool.false_ne_true
  | bl i =>
    cases rx
    cases y with
    | non => cases ry; exact PySem.EqNone.eq_bool_none (fin_bl I q (by simp))
    | bl j => cases ry; exact eq_bool (fin_bl I q dec_bl)
    | str j => obtain ⟨t', rfl⟩ := ry; exact PySem.EqMixed.eq_bool_str (fin_bl I q (by simp))
    | _ => exact absurd (show false = true from hs) Bool.false_ne_true
  | int i =>
    obtain ⟨t, rfl⟩ := rx
    cases y with
    | non => cases ry; exact PySem.EqNone.eq_int_none (fin_bl I q (by simp))
    | int j => obtain ⟨t', rfl⟩ := ry; exact eq_int (fin_bl I q dec_int)
    | str j => obtain ⟨t', rfl⟩ := ry; exact PySem.EqMixed.eq_int_str (fin_bl I q (by simp))
    | _ => exact absurd (show false = true from hs) Bool.false_ne_true
  | str i =>
    obtain ⟨t, rfl⟩ := rx
    cases y with
    | non => cases ry; exact PySem.EqNone.eq_str_none (fin_bl I q (by simp))
    | bl j => cases ry; exact PySem.EqMixed.eq_str_bool (fin_bl I q (by simp))
    | int j => obtain ⟨t', rfl⟩ := ry; exact PySem.EqMixed.eq_str_int (fin_bl I q (by simp))
    | str j => obtain ⟨t', rfl⟩ := ry; exact eq_str (fin_bl I q dec_str)
    | _ => exact absurd (show false = true from hs) Bool.false_ne_true
  | byt i =>
    obtain ⟨t, rfl⟩ := rx
    cases y with
    | byt j => obtain ⟨t', rfl⟩ := ry; exact PySem.W.eq_bytes (fin_bl I q dec_byt)
    | _ => exact absurd (show false = true from hs) Bool.false_ne_true
  | _ => cases y <;> exact absurd (show false = true from hs) Bool.false_ne_true
theorem op_ne : OpR X (compareOp .NotEq) rNe := by
  intro pins s σ H x y v u Q I rx ry h
  obtain ⟨hs, q⟩ := h
  cases x with
  | non =>
    cases rx
    cases y with
    | non => cases ry; exact PySem.EqNone.ne_none_none (fin_bl I q (by simp))
    | bl j => cases ry; exact PySem.EqNone.ne_none_bool (fin_bl I q (by simp))
    | int j => obtain ⟨t', rfl⟩ := ry; exact PySem.EqNone.ne_none_int (fin_bl I q (by simp))
    | str j => obtain ⟨t', rfl⟩ := ry; exact PySem.EqNone.ne_none_str (fin_bl I q (by simp))
    | _ => exact absurd (show false = true from hs) Bool.false_ne_true
  | bl i =>
    cases rx
    cases y with
    | non => cases ry; exact PySem.EqNone.ne_bool_none (fin_bl I q (by simp))
    | bl j => cases ry; exact ne_bool (fin_bl I q (congrArg not dec_bl))
    | str j => obtain ⟨t', rfl⟩ := ry; exact PySem.EqMixed.ne_bool_str (fin_bl I q (by simp))
    | _ => exact absurd (show false = true from hs) Bool.false_ne_true
  | int i =>
    obtain ⟨t, rfl⟩ := rx
    cases y with
    | non => cases ry; exact PySem.EqNone.ne_int_none (fin_bl I q (by simp))
    | int j => obtain ⟨t', rfl⟩ := ry; exact ne_int (fin_bl I q (congrArg not dec_int))
    | str j => obtain ⟨t', rfl⟩ := ry; exact PySem.EqMixed.ne_int_str (fin_bl I q (by simp))
    | _ => exact absurd (show false = true from hs) Bool.false_ne_true
  | str i =>
    obtain ⟨t, rfl⟩ := rx
    cases y with
    | non => cases ry; exact PySem.EqNone.ne_str_none (fin_bl I q (by simp))
    | bl j => cases ry; exact PySem.EqMixed.ne_str_bool (fin_bl I q (by simp))
    | int j => obtain ⟨t', rfl⟩ := ry; exact PySem.EqMixed.ne_str_int (fin_bl I q (by simp))
    | str j => obtain ⟨t', rfl⟩ := ry; exact ne_str (fin_bl I q (congrArg not dec_str))
    | _ => exact absurd (show false = true from hs) Bool.false_ne_true
  | byt i =>
    obtain ⟨t, rfl⟩ := rx
    cases y with
    | byt j => obtain ⟨t', rfl⟩ := ry; exact PySem.W.ne_bytes (fin_bl I q (congrArg not dec_byt))
    | _ => exact absurd (show false = true from hs) Bool.false_ne_true
  | _ => cases y <;> exact absurd (show false = true from hs) Bool.false_ne_true

theorem op_lt : OpR X (compareOp .Lt) (rI0 fun i j => .bl (decide (i < j))) := opB0 fun _ _ _ _ _ _ _ q => lt_int q
theorem op_le : OpR X (compareOp .LtE) (rI0 fun i j => .bl (decide (i ≤ j))) := opB0 fun _ _ _ _ _ _ _ q => le_int q
theorem op_gt : OpR X (compareOp .Gt) (rI0 fun i j => .bl (decide (j < i))) := opB0 fun _ _ _ _ _ _ _ q => gt_int q
theorem op_ge : OpR X (compareOp .GtE) (rI0 fun i j => .bl (decide (j ≤ i))) := opB0 fun _ _ _ _ _ _ _ q => ge_int q
theorem nomark (b : Expr) {op : CmpOp} (h : op ≠ .In := by decide) (h2 : op ≠ .NotIn := by decide) : behindInMarks op b = false := by
  have e1 : (op == CmpOp.In) = false := by cases op <;> first | rfl | exact absurd rfl h
  have e2 : (op == CmpOp.NotIn) = false := by cases op <;> first | rfl | exact absurd rfl h2
  cases b <;> simp [behindInMarks, e1, e2]
/-- a comparison as a value; hm: nomark b, or (for in, not in) by with_unfolding_all rfl -/
theorem pe_cmpR {op : CmpOp} {r : R2} (ho : OpR X (compareOp op) r) (ha : PE X a ta) (hb : PE X b tb) (hm : behindInMarks op b = false) : PE X (.Compare a [op] [b] pos) (tOp r ta tb) := by
  intro pins s σ H Q I h
  exact wpAny_Compare1 (binT ha hb I h fun v u s2 x y H2 I2 rx ry q => ho pins s2 σ H2 x y v u Q I2 rx ry q) hm
/-- a reading of a value as a test -/
inductive I_tTest (x : V) (H' : Hp) (Q : Bool → Hp → Prop) : Prop where
  | mk (k : Bool) (h0_ : x = .bl k) (h1_ : Q k H') : I_tTest x H' Q
noncomputable def tTest (t : TE) : TT := fun σ H Q => t σ H fun x H' => I_tTest x H' Q
theorem pt_cmpR {op : CmpOp} {r : R2} (ho : OpR X (compareOp op) r) (ha : PE X a ta) (hb : PE X b tb) (hm : behindInMarks op b = false) : PT X (.Compare a [op] [b] pos) (tTest (tOp r ta tb)) := by
  intro pins s σ H Q I h
  refine wpAny_isTrue_Compare1 (thn (ha pins s σ H _ I h) fun v s1 ⟨x, H1, I1, r1, q1⟩ => thn (hb pins s1 σ H1 _ I1 q1) fun u s2 ⟨y, H2, I2, r2, q2⟩ =>
    thn (ho pins s2 σ H2 x y v u _ I2 r1 r2 q2) fun c s3 ⟨z, H3, I3, r3, k, e, q3⟩ => ?_) hm
  subst e
  cases r3
  exact wpAny_truthy_bool ⟨H3, I3, q3⟩
/-! ### truth -/
theorem line63 : (sizeLine : Nat) < 2 ^ 63 := by rw [sizeLine_eq]; decide
/-! ### strs and bytes -/
/-! ### scalar builtins, by CallR -/
theorem vals1 {x : V} {us : List Value} (r : Vals [x] us) : ∃ u, us = [u] ∧ RelV x u := by
  cases r with
  | cons r1 r2 => cases r2; exact ⟨_, rfl, r1⟩
theorem call_abs : CallR X (.builtin "abs") (fun xs H Q => ∃ i, xs = [.int i] ∧ Q (.int (if i < 0 then -i else i)) H) := by
  intro pins s σ H xs us Q I r h
  obtain ⟨i, rfl, q⟩ := h
  obtain ⟨u, rfl, t, rfl⟩ := vals1 r
  exact call_abs_int fun u tk => ⟨.int (if i < 0 then -i else i), H, I.tok _, ⟨_, rfl⟩, q⟩
theorem call_int1 : CallR X (.type "int") (fun xs H Q => (∃ i, xs = [.int i] ∧ Q (.int i) H) ∨ ∃ k, xs = [.bl k] ∧ Q (.int (if k then 1 else 0)) H) := by
  intro pins s σ H xs us Q I r h
  rcases h with ⟨i, rfl, q⟩ | ⟨k, rfl, q⟩
  · obtain ⟨u, rfl, t, rfl⟩ := vals1 r
    exact call_int_int ⟨.int i, H, I, ⟨_, rfl⟩, q⟩
  · obtain ⟨u, rfl, r1⟩ := vals1 r
    cases r1
    exact call_int_bool ⟨.int (if k then 1 else 0), H, I.tok _, ⟨_, rfl⟩, q⟩
end
end L2

namespace L2
open PySem PySem.Spec PyProof.Rows

/-! ### an instance, its attributes a map -/
structure ObjM (h : Heap) (x dx C : Addr) (mA : Str → Option Value) : Prop where
  obj : h.get? x = some (PySem.W.instObj C dx)
  ns : h.Ns1 dx mA
  ne : dx ≠ x

theorem lookIn_ns {h : Heap} {dx : Addr} {mA : Str → Option Value} (n : h.Ns1 dx mA) : ∃ od, h.get? dx = some od ∧ ∀ name, PySem.W.lookIn name od = some (mA name) := by
  obtain ⟨o, es, ep, ho, hd, hk, _, hm⟩ := n
  refine ⟨o, ho, fun name => ?_⟩
  have e := hm name
  unfold nsFind findBy at e
  rw [← Array.find?_toList] at e
  unfold PySem.W.lookIn
  rw [hd]
  dsimp only
  split
  · rename_i y q
    rw [q] at e
    exact congrArg some e
  · rename_i q
    rw [q] at e
    have a : es.toList.any (·.refKey) = false := by
      rw [List.any_eq_false]
      intro y hy
      obtain ⟨z, t, hkey⟩ := hk y (Array.mem_toList_iff.mp hy)
      simp [DictEntry.refKey, hkey]
    have a' : ¬ es.toList.any (·.refKey) = true := by rw [a]; exact Bool.false_ne_true
    rw [if_neg a']
    exact congrArg some e

theorem ObjM.look {h : Heap} {x dx C : Addr} {mA : Str → Option Value} (I : ObjM h x dx C mA) : ∃ od, PySem.W.InstAt h x (PySem.W.instObj C dx) C (some od) ∧ ∀ name, PySem.W.lookIn name od = some (mA name) :=
  let ⟨od, ho, hl⟩ := lookIn_ns I.ns
  ⟨od, ⟨I.obj, rfl, rfl, ho⟩, hl⟩

section
variable {prog : Program} {w : World} {A : Around} {E : Value → Shared → Prop} {s : Shared} {K : PySem.W.Frag} {x dx C f : Addr} {mA : Str → Option Value} {name : Str} {v : Value}

end

/-! ### the attributes as a list of pairs -/
section
variable {P : Program} {w : World} {H H' : Hp} {h h' : Heap} {a C dx : Addr} {fs fs' : List (Str × V)}
theorem ins_get (hok : HOk P w H h) (e : H a = some (.ins C dx fs)) : ∃ mA, ObjM h a dx C mA ∧ (∀ f, RelO (fs.lookup f) (mA f)) ∧ PySem.Within mA (fs.map (·.1)) ∧ fs.length ≤ 1000 ∧ H dx = some (.own a) := by
  obtain ⟨d, z, ne, ob, mA, n, r, q⟩ := (show ObjOk P w H h a (.ins C dx fs) from hok a _ e)
  exact ⟨mA, ⟨ob, n, ne⟩, r, q, z, d⟩
end

/-! ### what of the text a class must have -/
structure Cls (K : PySem.W.Frag) (C : Addr) : Prop where
  pg : PySem.W.plainGet K C Str.empty = true
  hd : PySem.W.hasDictIn K C = true
  po : PySem.W.plainOver K C = true
  sa : PySem.W.findIn K (.ref C) "__setattr__" = some (some (.builtin "object.__setattr__"))
theorem Cls.get {K : PySem.W.Frag} {C : Addr} (c : Cls K C) (f : Str) : PySem.W.plainGet K C f = true := c.pg
section
variable {X : Cx} {pins : List (Addr × Obj)} {σ : St} {H : Hp} {s : Shared} {a C dx : Addr} {fs : List (Str × V)} {f : Str} {v : V} {A : Around} {E : Value → Shared → Prop}

end

/-! ### readings and rules -/
section
variable {X : Cx} {o e value : Expr} {f : Str} {pos pos' tpos : Pos} {ta tv : TE}
end

/-! ### isinstance -/
section
variable {X : Cx} {pins : List (Addr × Obj)} {σ : St} {H : Hp} {s : Shared} {A : Around} {E : Value → Shared → Prop} {Q : Value → Shared → Prop} {c : Value} {b : Bool}
/-- the type of a value, as the fragment's deciders take it; for an instance its class -/
inductive TyOf (K : PySem.W.Frag) (H : Hp) : V → Value → Prop where
  | non : TyOf K H .non (.type "NoneType")
  | bl (x : Bool) : TyOf K H (.bl x) (.type "bool")
  | int (i : Int) : TyOf K H (.int i) (.type "int")
  | str (x : Str) : TyOf K H (.str x) (.type "str")
  | flt (x : UInt64) : TyOf K H (.flt x) (.type "float")
  | lst {a : Addr} {xs : List V} (e : H a = some (.lst xs)) : TyOf K H (.ref a) (.type "list")
  | frz {a : Addr} {o : Obj} {xs : List V} (e : H a = some (.frz o (.lst xs))) : TyOf K H (.ref a) (.type "list")
  | tup {a : Addr} {xs : List V} (e : H a = some (.tup xs)) : TyOf K H (.ref a) (.type "tuple")
  | dK {a : Addr} {kvs : List (Key × V)} (e : H a = some (.dK kvs)) : TyOf K H (.ref a) (.type "dict")
  | dT {a : Addr} {kvs : List (List Key × V)} (e : H a = some (.dT kvs)) : TyOf K H (.ref a) (.type "dict")
  | ins {a C dx : Addr} {fs : List (Str × V)} (e : H a = some (.ins C dx fs)) (cl : Cls K C) (ha : PySem.W.findIn K (.ref C) "__class__" = some (some (.builtin "object.__class__")))
      (hn : PySem.W.specialIn K (.builtin "object.__class__") "__get__" = some (some (.builtin "getset_descriptor.__get__"))) (htk : PySem.W.takesIn K (.builtin "object.__class__") = some true)
      (hm : PySem.W.mroIn K C (.type "object") = some true) : TyOf K H (.ref a) (.ref C)
/-- isinstance(x, c) for one class c, a built-in or an own one: kitOne's answer -/
theorem isinst_ok {x : V} {u t : Value} (I : Inv X pins σ H s) (rx : RelV x u) (ty : TyOf X.K H x t) (e : PySem.W.kitOne X.K t c = some b) (h : ∀ tk, Q (.bool b) { s with toks := tk }) :
    wpAny (model X.prog X.w) A (call (.builtin "isinstance") [u, c]) Q E s := by
  cases ty with
  | non => cases (show u = Value.none from rx); exact PySem.W.kia_one PySem.W.kitx_none I.kIn True.intro e (fun z => nomatch z) h
  | bl y => cases (show u = Value.bool y from rx); exact PySem.W.kia_one PySem.W.kitx_bool I.kIn True.intro e (fun z => nomatch z) h
  | int i => obtain ⟨t, q⟩ := (show ∃ t, u = Value.int i t from rx); cases q; exact PySem.W.kia_one PySem.W.kitx_int I.kIn True.intro e (fun z => nomatch z) h
  | str y => obtain ⟨t, q⟩ := (show ∃ t, u = Value.str y t from rx); cases q; exact PySem.W.kia_one PySem.W.kitx_str I.kIn True.intro e (fun z => nomatch z) h
  | flt y => obtain ⟨t, q⟩ := (show ∃ t, u = Value.float y t from rx); cases q; exact PySem.W.kia_one PySem.W.kitx_float I.kIn True.intro e (fun z => nomatch z) h
  | @lst a xs ea =>
    cases (show u = Value.ref a from rx)
    obtain ⟨_, _, n, _, h1⟩ := (show ObjOk X.prog X.w H s.heap a (.lst xs) from I.hok a _ ea)
    exact PySem.W.kia_one PySem.W.kitx_list I.kIn ⟨_, h1, rfl⟩ e (fun z => nomatch z) h
  | @frz a ob xs ea =>
    cases (show u = Value.ref a from rx)
    obtain ⟨_, _, _, n, _, h1⟩ := (show ObjOk X.prog X.w H s.heap a (.frz ob (.lst xs)) from I.hok a _ ea)
    exact PySem.W.kia_one PySem.W.kitx_list I.kIn ⟨_, h1, rfl⟩ e (fun z => nomatch z) h
  | @tup a xs ea =>
    cases (show u = Value.ref a from rx)
    obtain ⟨_, _, _, p⟩ := (show ObjOk X.prog X.w H s.heap a (.tup xs) from I.hok a _ ea)
    obtain ⟨o, h1, h2, _⟩ := p
    exact PySem.W.kia_one PySem.W.kitx_tuple I.kIn ⟨o, h1, h2⟩ e (fun z => nomatch z) h
  | @dK a kvs ea =>
    cases (show u = Value.ref a from rx)
    obtain ⟨_, _, vs, _, p⟩ := (show ObjOk X.prog X.w H s.heap a (.dK kvs) from I.hok a _ ea)
    obtain ⟨o, es, ep, h1, h2, _⟩ := p
    exact PySem.W.kia_one PySem.W.kitx_dict I.kIn ⟨o, h1, h2.1⟩ e (fun z => nomatch z) h
  | @dT a kvs ea =>
    cases (show u = Value.ref a from rx)
    obtain ⟨_, _, xs, _, o, es, ep, h1, h2, _⟩ := (show ObjOk X.prog X.w H s.heap a (.dT kvs) from I.hok a _ ea)
    exact PySem.W.kia_one PySem.W.kitx_dict I.kIn ⟨o, h1, h2.1⟩ e (fun z => nomatch z) h
  | @ins a C dx fs ea cl ha hn htk hm =>
    cases (show u = Value.ref a from rx)
    obtain ⟨mA, O, _⟩ := ins_get I.hok ea
    obtain ⟨od, J, _⟩ := O.look
    exact PySem.W.kia_one (PySem.W.kitx_own (cl.get _) cl.hd ha hn htk hm) I.kIn J e (fun z => nomatch z) h
end
end L2

namespace L2
open PySem PySem.Spec PyProof.Rows

/-! ### room -/
structure Room (k : Nat) (A : Around) : Prop where
  hd : A.handled = none
  dp : A.depth + 3 * k + 5 < recursionLimit
  un : A.units + 16 * k + 200 < cLine
theorem Room.mono {j k : Nat} {A : Around} (r : Room k A) (h : j ≤ k) : Room j A := ⟨r.hd, by have := r.dp; (first | lia | omega), by have := r.un; (first | lia | omega)⟩
theorem Room.deeper {k : Nat} {A : Around} (r : Room (k + 1) A) (env : Env) : Room k (A.deeper env) :=
  ⟨r.hd, by have := r.dp; show A.depth + 1 + 3 * k + 5 < _; (first | lia | omega), by have := r.un; show A.units + 3 + 16 * k + 200 < _; (first | lia | omega)⟩
theorem Room.depth {k : Nat} {A : Around} (r : Room k A) : A.depth < recursionLimit := by have := r.dp; (first | lia | omega)
theorem Room.units {k : Nat} {A : Around} (r : Room k A) : A.units + 64 < cLine := by have := r.un; (first | lia | omega)
/-! ### argument lists and displays -/
noncomputable def tNil : TA := fun _ H Q => Q [] H
noncomputable def tCons (ta : TE) (tr : TA) : TA := fun σ H Q => ta σ H fun x H1 => tr σ H1 fun xs H2 => Q (x :: xs) H2
section
variable {X : Cx} {e : Expr} {es : List Expr} {te : TE} {t : TA} {pos : Pos}
theorem pa_nil : PA X [] tNil := fun _ _ _ _ H Q I h => Calls.spliced_nil ⟨[], H, I, .nil, h⟩
theorem pa_cons (ha : PE X e te) (hr : PA X es t) (hs : starEach (e :: es) X.env = (false, eval e X.env) :: starEach es X.env := by rfl) : PA X (e :: es) (tCons te t) := by
  intro pos pins s σ H Q I h
  rw [hs]
  show wpAny _ _ (spliced ((false, eval e X.env) :: backTo pos (starEach es X.env))) _ _ s
  refine Calls.spliced_cons (thn (ha pins s σ H _ I h) fun u s1 ⟨x, H1, I1, r1, q1⟩ => ?_)
  exact thn (hr pos pins s1 σ H1 _ I1 q1) fun us s2 ⟨xs, H2, I2, r2, q2⟩ => ⟨x :: xs, H2, I2, .cons r1 r2, q2⟩

/-- a tuple, a list of written items -/
noncomputable def tTup (t : TA) : TE := fun σ H Q => t σ H fun xs H1 => xs.length ≤ sizeLine ∧ ∀ p, H1 p = none → Q (.ref p) (upd H1 p (.tup xs))
noncomputable def tLst (t : TA) : TE := fun σ H Q => t σ H fun xs H1 => xs.length ≤ sizeLine ∧ ∀ p, H1 p = none → Q (.ref p) (upd H1 p (.lst xs))
theorem pe_tup {x1} (h : PA X es t) : PE X (.Tuple es x1 pos) (tTup t) := by
  intro pins s σ H Q I hq
  refine wpAny_Tuple_spliced (thn (h pos pins s σ H _ I hq) fun us s1 ⟨xs, H1, I1, r, z, q⟩ => ⟨by rw [← r.length]; exact z, ?_⟩)
  have hf : H1 s1.heap.objs.size = none := I1.hok.fresh (Nat.le_refl _)
  refine ⟨.ref s1.heap.objs.size, upd H1 s1.heap.objs.size (.tup xs), I1.laid (t' := s1.toks) (fun b u e => Heap.get?_push_of_some _ e) (Nat.le_refl _) ?_, rfl, q _ hf⟩
  exact ⟨z, us, r, ⟨_, Heap.get?_push_size _ rfl, rfl, _, rfl⟩⟩
theorem pe_lst (h : PA X es t) : PE X (.List es pos) (tLst t) := by
  intro pins s σ H Q I hq
  refine wpAny_List_spliced (thn (h pos pins s σ H _ I hq) fun us s1 ⟨xs, H1, I1, r, z, q⟩ => ⟨by rw [← r.length]; exact z, ?_⟩)
  have hf : H1 s1.heap.objs.size = none := I1.hok.fresh (Nat.le_refl _)
  refine ⟨.ref s1.heap.objs.size, upd H1 s1.heap.objs.size (.lst xs), I1.laid (t' := s1.toks) (fun b u e => Heap.get?_push_of_some _ e) (Nat.le_refl _) ?_, rfl, q _ hf⟩
  exact ⟨z, us, 0, r, Heap.get?_push_size _ rfl⟩
end

/-! ### what a def promises -/
/-- a def's promise: the bound arguments in the parameters' order, the heap, the wanted end, the wanted exception -/
noncomputable abbrev Sp := List V → Hp → VK → XK → Prop
/-- how an exception lies behind a call (file 08 gives it): the callers' frames, abstract heap and state ahead of the call, the wish, the exception, the state -/
noncomputable abbrev CXT := List Env → Hp → Shared → XK → Value → Shared → Prop

/-- the state at a call -/
structure Env0 (P : Program) (w : World) (K : PySem.W.Frag) (mg : Str → Option Value) (base : Heap) (A : Around) (outer : List Env) (s : Shared) (H : Hp) : Prop where
  frames : A.frames = some outer
  mod : Mod K mg base
  bs : ∀ b o, base.get? b = some o → s.heap.get? b = some o ∧ H b = none
  bsz : base.objs.size ≤ s.heap.objs.size
  funs : s.heap.FunFrames base outer
  frf : ∀ b ∈ frs outer, H b = none
  hok : HOk P w H s.heap
  bare : AllBare s.gens
/-- a call's end -/
noncomputable def CE (outer : List Env) (P : Program) (w : World) (H : Hp) (s : Shared) (Q : VK) (u : Value) (s' : Shared) : Prop :=
  ∃ v H', s'.os = s.os ∧ AllBare s'.gens ∧ Un (frs outer) [] H H' s.heap s'.heap ∧ HOk P w H' s'.heap ∧ RelV v u ∧ Q v H'
noncomputable def CR (CX : CXT) (outer : List Env) (P : Program) (w : World) (H : Hp) (s : Shared) (Q : VK) (E : XK) (r : Result) (s' : Shared) : Prop :=
  match r with
  | .ok (.ret u) => CE outer P w H s Q u s'
  | .ok _ => False
  | .error e => CX outer H s E e s'
structure FnOk (P : Program) (w : World) (K : PySem.W.Frag) (mg : Str → Option Value) (base : Heap) (CX : CXT) (k : Nat) (f : Addr) (fd : FuncData) (ps : List Str) (sp : Sp) : Prop where
  len : ∀ vs H Q E, sp vs H Q E → vs.length = ps.length
  run : ∀ (A : Around) (outer : List Env) (s : Shared) (H : Hp) (args : Args) (us : List Value) (vs : List V) (Q : VK) (E : XK), Room k A → Env0 P w K mg base A outer s H → BindsTo s fd args (ps.zip us) → Vals vs us → sp vs H Q E →
    codeAny (model P w) A (.call (.ref f) args) (CR CX outer P w H s Q E) s
section
variable {X : Cx} {pins : List (Addr × Obj)} {σ : St} {H : Hp} {s s' : Shared}
/-- from a body: what a callee wants -/
theorem Inv.env0 (I : Inv X pins σ H s) : Env0 X.prog X.w X.K X.mg X.base X.A X.stack s H :=
  ⟨I.ok.frames, I.ok.mod, I.bs, Nat.le_trans I.ok.bsz I.sz, I.stack, I.stkFree, I.hok, I.bare⟩
/-- behind a call -/
theorem Inv.after {Q : VK} {u : Value} (I : Inv X pins σ H s) (h : CE X.stack X.prog X.w H s Q u s') : EP X pins σ Q u s' := by
  obtain ⟨v, H', os, bare, un, hok, r, q⟩ := h
  obtain ⟨hh, g, d, t, os'⟩ := s'
  obtain rfl : os' = s.os := os
  exact ⟨v, H', I.call (h' := hh) (g' := g) (d' := d) (t' := t) (ch := []) un hok bare (fun b z => absurd z (by simp)), r, q⟩
end

/-! ### calls -/
/-- f(..): the written arguments, then the defaults dvs; E: what is wanted of an exception -/
noncomputable def tCall (sp : Sp) (dvs : List V) (E : XK) (t : TA) : TE := fun σ H Q => t σ H fun vs H1 => sp (vs ++ dvs) H1 Q E
/-- how the parameters are bound: us the positional arguments, kw the keywords' values by name, ds the defaults that fill up -/
noncomputable def Binds (K : PySem.W.Frag) (fd : FuncData) (ps : List Str) (ds : List Value) : Prop :=
  ∀ (s : Shared) (us : List Value), K.In s.heap → (us ++ ds).length = ps.length → BindsTo s fd ⟨us, []⟩ (ps.zip (us ++ ds))
/-- every parameter is given -/
theorem Binds.all {K : PySem.W.Frag} {fd : FuncData} {ps : List Str} (h : ∀ us : List Value, us.length = ps.length → bindArgs fd ⟨us, []⟩ = pure (ps.zip us)) : Binds K fd ps [] := fun s us _ hl => by
  rw [List.append_nil] at hl ⊢
  exact .of_eq (h us hl)

/-- an exception of a callee reaches what this body wants of exceptions -/
noncomputable def Passes (CX : CXT) (X : Cx) (E : XK) : Prop := ∀ (pins : List (Addr × Obj)) (σ : St) (H : Hp) (s : Shared) (e : Value) (s' : Shared), Inv X pins σ H s → CX X.stack H s E e s' → X.xe e s'

section
variable {X : Cx} {CX : CXT} {k : Nat} {f C : Addr} {fd : FuncData} {ps : List Str} {sp : Sp} {dvs : List V} {ds : List Value} {E : XK} {x m : Str} {p pos apos : Pos} {e o : Expr} {es : List Expr} {ta : TE} {t : TA}

/-- the callee runs -/
theorem run_fn {pins : List (Addr × Obj)} {σ : St} {H : Hp} {s : Shared} {Q : VK} {us : List Value} {vs : List V} (F : FnOk X.prog X.w X.K X.mg X.base CX k f fd ps sp) (hr : Room k X.A) (hb : Binds X.K fd ps ds) (hd : Vals dvs ds) (hx : Passes CX X E)
    (I : Inv X pins σ H s) (r : Vals vs us) (h : sp (vs ++ dvs) H Q E) : wpAny (model X.prog X.w) X.A (call (.ref f) us) (EP X pins σ Q) X.xe s := by
  have r2 : Vals (vs ++ dvs) (us ++ ds) := r.append hd
  have hl : (us ++ ds).length = ps.length := by rw [← r2.length]; exact F.len _ _ _ _ h
  refine wpAny_call (codeAny_mono (F.run X.A X.stack s H ⟨us, []⟩ (us ++ ds) (vs ++ dvs) Q E hr I.env0 (hb s us I.kIn hl) r2 h) fun r s' hq => ?_)
  cases r with
  | error e => exact hx pins σ H s e s' I hq
  | ok fl =>
    cases fl with
    | ret u => exact I.after hq
    | next => exact False.elim hq
    | brk => exact False.elim hq
    | cont => exact False.elim hq

theorem pe_call (F : FnOk X.prog X.w X.K X.mg X.base CX k f fd ps sp) (hr : Room k X.A) (hg : Gl X x) (hm : X.mg x = some (.ref f)) (hk : PySem.W.keepIn X.K (.ref f) = true) (hb : Binds X.K fd ps ds) (hd : Vals dvs ds) (hx : Passes CX X E)
    (ha : PA X (e :: es) t) (hdb : (x == ("__debug__" : Str)) = false := by decide) (he : starEach (e :: es) X.env = (false, eval e X.env) :: starEach es X.env := by rfl) (hpl : (backTo pos (starEach es X.env)).any (·.1) = false := by rfl) :
    PE X (.Call (.Name x p) (e :: es) [] pos) (tCall sp dvs E t) := by
  intro pins s σ H Q I h
  refine wpAny_Call_Name_kw (ld_glob I hg hm ?_ hdb)
  refine PySem.W.callWith_K (h₀ := X.base) I.ok.mod.kin hk (thn (ha pos pins s σ H _ I h) fun us s1 ⟨vs, H1, I1, r, q⟩ => ⟨I1.kIn, ?_⟩) he hpl
  exact run_fn F hr hb hd hx I1 r q
end

/-! ### keywords -/
section
variable {X : Cx} {CX : CXT} {k : Nat} {f C : Addr} {fd : FuncData} {ps ks : List Str} {sp : Sp} {E : XK} {x m : Str} {p pos apos kpos : Pos} {e o : Expr} {es : List Expr} {kws : List Keyword} {te ta : TE} {t tk : TA} {nm : Option Str}
variable {g : List Value → List Value → List Value} {gV : List V → List V → List V}
end

/-! ### a def's body keeps its promise -/
/-- names: the parameters first -/
structure FnScope (N P : List Str) (sc : Scope) : Prop where
  kind : sc.kind = .function
  co : sc.isCoroutine = false
  gen : sc.isGenerator = false
  nd : N.Nodup
  pre : N.take P.length = P
  par : ∀ x ∈ P, sc.names.lookup x = some .local ∨ sc.names.lookup x = some .cell
  nofree : ∀ y ∈ sc.names, y.2 ≠ .free

theorem bindL_out {kindOf : Str → Option NameKind} {x : Str} : ∀ {binds : List (Str × Value)} {m : Str → Option Value}, (∀ v, (x, v) ∉ binds) → bindL kindOf binds m x = m x
  | [], _, _ => rfl
  | (n, v) :: r, m, h => by
    unfold bindL
    rw [bindL_out fun w hw => h w (List.mem_cons_of_mem _ hw)]
    split
    · have : x ≠ n := by rintro rfl; exact h v List.mem_cons_self
      simp [this]
    · rfl
theorem bindC_out {kindOf : Str → Option NameKind} {x : Str} : ∀ {binds : List (Str × Value)} {m : Str → Option Value}, (∀ v, (x, v) ∉ binds) → bindC kindOf binds m x = m x
  | [], _, _ => rfl
  | (n, v) :: r, m, h => by
    unfold bindC
    rw [bindC_out fun w hw => h w (List.mem_cons_of_mem _ hw)]
    split
    · rfl
    · have : x ≠ n := by rintro rfl; exact h v List.mem_cons_self
      simp [this]
theorem bindL_get {kindOf : Str → Option NameKind} {x : Str} {v : Value} : ∀ {P : List Str} {vs : List Value} {i : Nat} {m : Str → Option Value}, P.Nodup → P[i]? = some x → vs[i]? = some v → kindOf x = some .local →
    bindL kindOf (P.zip vs) m x = some v
  | [], _, _, _, _, h, _, _ => by simp at h
  | _ :: _, [], _, _, _, _, h, _ => by simp at h
  | p :: P, w :: vs, 0, m, nd, h1, h2, hk => by
    simp at h1 h2; subst h1; subst h2
    show bindL kindOf ((p, w) :: P.zip vs) m p = _
    unfold bindL
    rw [bindL_out fun v hv => (List.nodup_cons.mp nd).1 (List.of_mem_zip hv).1, if_pos hk]
    simp
  | p :: P, w :: vs, i + 1, m, nd, h1, h2, hk => by
    show bindL kindOf ((p, w) :: P.zip vs) m x = _
    unfold bindL
    exact bindL_get (i := i) (List.nodup_cons.mp nd).2 (by simpa using h1) (by simpa using h2) hk
theorem bindC_get {kindOf : Str → Option NameKind} {x : Str} {v : Value} : ∀ {P : List Str} {vs : List Value} {i : Nat} {m : Str → Option Value}, P.Nodup → P[i]? = some x → vs[i]? = some v → kindOf x ≠ some .local →
    bindC kindOf (P.zip vs) m x = some v
  | [], _, _, _, _, h, _, _ => by simp at h
  | _ :: _, [], _, _, _, _, h, _ => by simp at h
  | p :: P, w :: vs, 0, m, nd, h1, h2, hk => by
    simp at h1 h2; subst h1; subst h2
    show bindC kindOf ((p, w) :: P.zip vs) m p = _
    unfold bindC
    rw [bindC_out fun v hv => (List.nodup_cons.mp nd).1 (List.of_mem_zip hv).1, if_neg hk]
    simp
  | p :: P, w :: vs, i + 1, m, nd, h1, h2, hk => by
    show bindC kindOf ((p, w) :: P.zip vs) m x = _
    unfold bindC
    exact bindC_get (i := i) (List.nodup_cons.mp nd).2 (by simpa using h1) (by simpa using h2) hk

/-- the names' values at the entry -/
noncomputable def start (N : List Str) (vs : List V) : St := vs.map some ++ List.replicate (N.length - vs.length) none

/-- the context of a def's body, at its entry; an exception leaves the frame, then lies as CX says -/
noncomputable def cxOf (CX : CXT) (P : Program) (w : World) (K : PySem.W.Frag) (mg : Str → Option Value) (base : Heap) (N : List Str) (qual : Str) (scope : Scope) (f : Addr) (cd : Value) (A : Around) (outer : List Env) (s : Shared) (H : Hp) (E : XK) : Cx where
  prog := P
  w := w
  K := K
  mg := mg
  base := base
  A := A.deeper (envOfC qual scope s.heap.objs.size f cd)
  N := N
  s₀ := s
  H₀ := H
  env := envOfC qual scope s.heap.objs.size f cd
  outer := outer
  stack := envOfC qual scope s.heap.objs.size f cd :: outer
  ex := []
  calm := true
  fn := fun _ => true
  pn := []
  xe := fun e s' => wpAny (model P w) (A.deeper (envOfC qual scope s.heap.objs.size f cd)) (leaving (envOfC qual scope s.heap.objs.size f cd) e) (fun _ s'' => CX outer H s E e s'') (fun e' s'' => CX outer H s E e' s'') s'

theorem cell_has {sc : Scope} {n : Nat} {x : Str} (h : sc.names.lookup x = some .cell) : ∃ c, (cellsFrom n sc.names []).lookup x = some c := by
  have q := PySem.W.cellsFrom_some sc.names n [] (.inl h)
  exact Option.isSome_iff_exists.mp q

theorem inv_start {CX : CXT} {P : Program} {w : World} {K : PySem.W.Frag} {mg : Str → Option Value} {base : Heap} {N ps : List Str} {qual : Str} {scope : Scope} {f : Addr} {cd : Value} {A : Around} {outer : List Env} {s s1 : Shared} {H : Hp} {E : XK} {us : List Value} {vs : List V}
    (S : FnScope N ps scope) (hd : A.handled = none) (e0 : Env0 P w K mg base A outer s H) (hl : vs.length = ps.length) (r : Vals vs us)
    (x : InCallC s s.heap.objs.size (bindL (envOfC qual scope s.heap.objs.size f cd).kindOf (ps.zip us) fun _ => none) (cellsFrom (s.heap.objs.size + 1) scope.names []) (bindC (envOfC qual scope s.heap.objs.size f cd).kindOf (ps.zip us) fun _ => none) s1) :
    Inv (cxOf CX P w K mg base N qual scope f cd A outer s H E) [] (start N vs) H s1 := by
  have hpl : ps.length ≤ N.length := by have := congrArg List.length S.pre; rw [List.length_take] at this; (first | lia | omega)
  obtain ⟨h1, tk, rfl, hk⟩ := x.done
  have noA : ∀ b : Addr, b ∉ (cxOf CX P w K mg base N qual scope f cd A outer s H E).ex := fun b z => absurd (show b ∈ ([] : List Addr) from z) (by simp)
  refine ⟨⟨e0.mod, S.kind, rfl, rfl, Nat.le_refl _, fun y z c h1 h2 => ?_, fun y hy => ?_, fun y c _ h => ?_, fun _ => hd, Around.frames_deeper e0.frames, .inr ⟨rfl, rfl⟩, fun b z => absurd z (noA b), e0.bs, e0.bsz, fun b _ _ => noA b, fun b z => absurd z (noA b), e0.funs, e0.frf⟩,
    rfl, e0.bare, Un.kept hk, ⟨_, x.toInCall.ns, fun i y v h1 h2 h3 => ?_⟩, fun y c h => ⟨_, x.cell y c h⟩, e0.hok.fresh (Nat.le_refl _), fun y c h => ?_, fun p hp => absurd (show p ∈ ([] : List (Addr × Obj)) from hp) (by simp), e0.hok.kept hk, ?_⟩
  · exact name_of_addr x.apart (PySem.mem_of_lookup h1) (PySem.mem_of_lookup h2)
  · have hy : scope.names.lookup y = some .cell ∨ scope.names.lookup y = some .free := hy
    rcases hy with hy | hy
    · exact cell_has hy
    · exact absurd rfl (S.nofree _ (PySem.mem_of_lookup hy))
  · exact Nat.le_of_lt (x.above y c (PySem.mem_of_lookup h))
  · have hi : i < vs.length := by
      unfold start at h2
      by_cases hi : i < vs.length
      · exact hi
      · rw [List.getElem?_append_right (by simpa using hi)] at h2
        rw [List.getElem?_replicate] at h2
        split at h2 <;> cases h2
    have ha : vs[i]? = some v := by
      unfold start at h2
      rw [List.getElem?_append_left (by simpa using hi), List.getElem?_map] at h2
      cases e : vs[i]? with
      | none => rw [e] at h2; cases h2
      | some a => rw [e] at h2; cases h2; rfl
    obtain ⟨u, hu, rv⟩ := r.get ha
    have hp : ps[i]? = some y := by
      rw [← S.pre, List.getElem?_take_of_lt (by (first | lia | omega))]; exact h1
    have ndP : ps.Nodup := by rw [← S.pre]; exact S.nd.sublist (List.take_sublist _ _)
    refine ⟨u, rv, ?_⟩
    rcases S.par y (List.mem_of_getElem? hp) with k | k
    · exact .inl ⟨k, bindL_get ndP hp hu k⟩
    · obtain ⟨c, e⟩ := cell_has (n := s.heap.objs.size + 1) k
      refine .inr ⟨.inl k, c, e, ?_⟩
      have q := x.cell y c e
      rw [bindC_get ndP hp hu (by show scope.names.lookup y ≠ _; rw [k]; decide)] at q
      exact q
  · exact e0.hok.fresh (Nat.le_of_lt (x.above y c (PySem.mem_of_lookup h)))
  · unfold start
    show _ = N.length
    rw [List.length_append, List.length_map, List.length_replicate]
    (first | lia | omega)

/-- THE RULE: a def (or a method) of the text, by its body. The body's reading t is chosen for each entry; it is run at the parameters' values -/
theorem fn_of {CX : CXT} {P : Program} {w : World} {K : PySem.W.Frag} {mg : Str → Option Value} {base : Heap} {k : Nat} {f : Addr} {name qual : Str} {params : Arguments} {body : List Stmt} {scope : Scope} {dV kV doc pm cdv ct oc : Value} {an od : Option Addr}
    {osl : Array (Option Value)} {N ps : List Str} {sp : Sp} (lk : K.lookup f = some ⟨oc, od, .func (PySem.W.fnOf name qual params body scope dV kV doc pm an cdv ct), osl⟩) (hcd : PySem.W.codeIn K cdv qual = true) (S : FnScope N ps scope)
    (len : ∀ vs H Q E, sp vs H Q E → vs.length = ps.length)
    (hbody : ∀ (A : Around) (outer : List Env) (s : Shared) (H : Hp) (vs : List V) (Q : VK) (E : XK), Room k (A.deeper (envOfC qual scope s.heap.objs.size f cdv)) → sp vs H Q E →
      ∃ t, PSs (cxOf CX P w K mg base N qual scope f cdv A outer s H E) body t ∧ t { nx := fun _ H' => Q .non H', rt := Q } (start N vs) H) :
    FnOk P w K mg base CX (k + 1) f (PySem.W.fnOf name qual params body scope dV kV doc pm an cdv ct) ps sp := by
  refine ⟨len, fun A outer s H args us vs Q E hr e0 hb r hsp => ?_⟩
  have hl := len _ _ _ _ hsp
  have KX : K.In s.heap := e0.mod.kin.keeps fun b o e => (e0.bs b o e).1
  have lim : s.heap.NoLimit := e0.mod.nolimit.keeps fun b o e => (e0.bs b o e).1
  have hkind : ∀ y ∈ ps.zip us, scope.names.lookup y.1 = some .local ∨ (scope.names.lookup y.1 = some .cell ∧ ((cellsFrom (s.heap.objs.size + 1) scope.names []).lookup y.1).isSome = true) := fun ⟨n, v⟩ hy => by
    rcases S.par n (List.of_mem_zip hy).1 with q | q
    · exact .inl q
    · exact .inr ⟨q, PySem.W.cellsFrom_some _ _ _ (.inl q)⟩
  refine codeAny_call_function hr.depth (KX _ _ lk) rfl S.co S.gen rfl (PySem.W.codeRec_of KX hcd) (hb _ _ _ _ ?_)
  refine wpAny_newFunctionEnv_cells S.kind hkind fun env he s1 x => ?_
  subst he
  refine ⟨lim.keeps x.toInCall.keep, codeAny_func ?_⟩
  obtain ⟨t, ht, hq⟩ := hbody A outer s H vs Q E (hr.deeper _) hsp
  have I : Inv (cxOf CX P w K mg base N qual scope f cdv A outer s H E) [] (start N vs) H s1 := inv_start S hr.hd e0 hl r x
  refine wpAny_mono (ht [] s1 (start N vs) H _ I hq) (fun fl s' hs => ?_) fun e s' hs => hs
  have fin : ∀ {σ' : St} {H' : Hp} {v : V} {u : Value}, Inv (cxOf CX P w K mg base N qual scope f cdv A outer s H E) [] σ' H' s' → RelV v u → Q v H' → CE outer P w H s Q u s' :=
    fun {σ' H' v u} J rv q => ⟨v, H', J.os, J.bare, J.base, J.hok, rv, q⟩
  cases fl with
  | ret u =>
    obtain ⟨v, σ', H', J, rv, q⟩ := hs
    exact fin J rv q
  | next =>
    obtain ⟨σ', H', J, q⟩ := hs
    exact fin (v := V.non) (u := Value.none) J rfl q
  | brk =>
    obtain ⟨_, _, _, q⟩ := hs
    exact False.elim q
  | cont =>
    obtain ⟨_, _, _, q⟩ := hs
    exact False.elim q
end L2

namespace L2
open PySem PySem.Spec PyProof.Rows
section
variable {X : Cx} {x : Str} {p pos : Pos} {e : Expr} {es : List Expr} {t : TA} {id T : String} {r : List V → Hp → VK → Prop}

noncomputable def tCB (r : List V → Hp → VK → Prop) (t : TA) : TE := fun σ H Q => t σ H fun vs H1 => r vs H1 Q
/-- f(e, ..), f a built-in function -/
theorem pe_callB (hc : CallR X (.builtin id) r) (hg : Gl X x) (hm : X.mg x = none) (hv : bootBuiltins x = some (.builtin id)) (ha : PA X (e :: es) t) (hn : x ≠ "__name__" := by decide) (hdb : (x == ("__debug__" : Str)) = false := by decide)
    (he : starEach (e :: es) X.env = (false, eval e X.env) :: starEach es X.env := by rfl) (hpl : (backTo pos (starEach es X.env)).any (·.1) = false := by rfl) : PE X (.Call (.Name x p) (e :: es) [] pos) (tCB r t) := by
  intro pins s σ H Q I h
  refine wpAny_Call_Name_kw (ld_blt I hg hm hv ?_ hn hdb)
  exact PyProof.Rows.callWith_builtin1 (thn (ha pos pins s σ H _ I h) fun us s1 ⟨vs, H1, I1, r1, q1⟩ => hc pins s1 σ H1 vs us Q I1 r1 q1) he hpl
/-- T(e, ..), T a built-in type -/
theorem pe_callTy (hc : CallR X (.type T) r) (hg : Gl X x) (hm : X.mg x = none) (hv : bootBuiltins x = some (.type T)) (ha : PA X (e :: es) t) (hn : x ≠ "__name__" := by decide) (hdb : (x == ("__debug__" : Str)) = false := by decide)
    (he : starEach (e :: es) X.env = (false, eval e X.env) :: starEach es X.env := by rfl) (hpl : (backTo pos (starEach es X.env)).any (·.1) = false := by rfl) : PE X (.Call (.Name x p) (e :: es) [] pos) (tCB r t) := by
  intro pins s σ H Q I h
  refine wpAny_Call_Name_kw (ld_blt I hg hm hv ?_ hn hdb)
  exact PyProof.Rows.callWith_type1 (thn (ha pos pins s σ H _ I h) fun us s1 ⟨vs, H1, I1, r1, q1⟩ => hc pins s1 σ H1 vs us Q I1 r1 q1) he hpl
end
end L2

namespace HT
open PySem PyProof.Rows

section
open PySem.SeqAt
open PySem.AutoSeq1 (wpAny_loadPart')
open PySem.MeetsSeq PySem.MeetsSeq2 PySem.MeetsSeq3

end

section
variable {prog : Program} {w : World} {A : Around} {E : Value → Shared → Prop} {s : Shared}

/-! ### t[a:b], not the whole -/
/-- a slice's bound as a place among n (d where it is left out) -/
noncomputable def sIx (n d : Nat) : Option Int → Nat
  | none => d
  | some v => if v < 0 then (v + (n : Int)).toNat else min v.toNat n
theorem sIx_none (n d : Nat) : sIx n d none = d := rfl
theorem sIx_nat (n d k : Nat) : sIx n d (some (k : Int)) = min k n := by
  show (if (k : Int) < 0 then ((k : Int) + (n : Int)).toNat else min (k : Int).toNat n) = min k n
  rw [if_neg (by (first | lia | omega)), Int.toNat_natCast]
end
end HT

namespace L2
open PySem PySem.Spec PyProof.Rows

/-! ### the parts of a slice -/
noncomputable abbrev TO := St → Hp → (Option Int → Hp → Prop) → Prop
/-- a slice's part (left out, or an int) -/
noncomputable def PO (X : Cx) (e : Option Expr) (t : TO) : Prop :=
  ∀ (pins : List (Addr × Obj)) (s : Shared) (σ : St) (H : Hp) (Q : Option Int → Hp → Prop), Inv X pins σ H s → t σ H Q →
    wpAny (model X.prog X.w) X.A (evalPart e X.env) (fun u s' => ∃ o H', Inv X pins σ H' s' ∧ IsPart u o ∧ Q o H') X.xe s
noncomputable def tNoPart : TO := fun _ H Q => Q none H
noncomputable def tPart (t : TE) : TO := fun σ H Q => t σ H fun x H1 => ∃ i, x = .int i ∧ Q (some i) H1

section
variable {X : Cx} {e : Expr} {te : TE} {lo hi : Option Expr} {tl th : TO} {pos p2 : Pos}

theorem po_none : PO X none tNoPart := by
  intro pins s σ H Q I h
  rw [evalPart_none]
  exact wpAny_pure ⟨none, H, I, .none, h⟩
theorem po_some (h : PE X e te) : PO X (some e) (tPart te) := by
  intro pins s σ H Q I hw
  rw [evalPart_some]
  refine thn (h pins s σ H _ I hw) fun u s1 ⟨x, H1, I1, r1, q1⟩ => ?_
  obtain ⟨i, rfl, q⟩ := q1
  obtain ⟨t, rfl⟩ := r1
  exact ⟨some i, H1, I1, .int i t, q⟩

/-- what a slice of a value is, by values: the slice object stands at sl -/
noncomputable def SlR (X : Cx) (r : V → Option Int → Option Int → Hp → VK → Prop) : Prop :=
  ∀ (pins : List (Addr × Obj)) (s : Shared) (σ : St) (H : Hp) (x : V) (v vl vu : Value) (lo hi : Option Int) (sl : Addr) (Q : VK), Inv X pins σ H s → RelV x v → s.heap.IsSliceOf sl vl vu .none → IsPart vl lo → IsPart vu hi → r x lo hi H Q →
    ∃ T id, typeLookup (.type T) "__getitem__" = pure (some (.builtin id)) ∧ s.TypeIs v T ∧ wpAny (model X.prog X.w) X.A (getItem v (.ref sl)) (EP X pins σ Q) X.xe s
noncomputable def tSl (r : V → Option Int → Option Int → Hp → VK → Prop) (te : TE) (tl th : TO) : TE := fun σ H Q => te σ H fun x H1 => tl σ H1 fun l H2 => th σ H2 fun u H3 => r x l u H3 Q
/-- a[lo:hi], any a -/
theorem pe_slice {r : V → Option Int → Option Int → Hp → VK → Prop} (hr : SlR X r) (he : PE X e te) (hl : PO X lo tl) (hu : PO X hi th) : PE X (.Subscript e (.Slice lo hi none p2) pos) (tSl r te tl th) := by
  intro pins s σ H Q I h
  refine Subscript_ (thn (he pins s σ H _ I h) fun v s1 ⟨x, H1, I1, r1, q1⟩ => ?_)
  refine wpAny_Slice (thn (hl pins s1 σ H1 _ I1 q1) fun vl s2 ⟨l, H2, I2, pl, q2⟩ => thn (hu pins s2 σ H2 _ I2 q2) fun vu s3 ⟨u, H3, I3, pu, q3⟩ => ?_)
  rw [evalPart_none]
  refine wpAny_pure ?_
  have I4 : Inv X pins σ H3 { s3 with heap := s3.heap.push { cls := .type "slice", data := .fields #[vl, vu, .none] } } := I3.kept (t' := s3.toks) fun b ob q => Heap.get?_push_of_some _ q
  obtain ⟨T, id, hT, ht, hg⟩ := hr pins { s3 with heap := s3.heap.push { cls := .type "slice", data := .fields #[vl, vu, .none] } } σ H3 x v vl vu l u s3.heap.objs.size Q I4 r1 (Heap.IsSliceOf.new ..) pl pu q3
  show wpAny (model X.prog X.w) X.A (subscriptTail e (.Slice lo hi none p2) v (.ref s3.heap.objs.size)) (EP X pins σ Q) X.xe { s3 with heap := s3.heap.push { cls := .type "slice", data := .fields #[vl, vu, .none] } }
  exact tail_any (ops := [.ref s3.heap.objs.size, v]) ht hT hg (by with_unfolding_all rfl)

/-- the items of xs[lo:hi] -/
noncomputable def cutV (xs : List V) (lo hi : Option Int) : List V := (xs.drop (HT.sIx xs.length 0 lo)).take (HT.sIx xs.length xs.length hi - HT.sIx xs.length 0 lo)
theorem cutV_length (xs : List V) (lo hi : Option Int) : (cutV xs lo hi).length ≤ xs.length := by
  unfold cutV
  rw [List.length_take, List.length_drop]
  (first | lia | omega)
/-! ### t < u, t + u -/
end
end L2

namespace L2
open PySem PySem.Spec PyProof.Rows

/-! ### places -/
/-- the place that an index of any sign means -/
noncomputable def ixN (n : Nat) (i : Int) : Option Nat := if 0 ≤ i then (if i < n then some i.toNat else none) else if -(n : Int) ≤ i then some (i + n).toNat else none
noncomputable def atI {α : Type} (xs : List α) (i : Int) : Option α := (ixN xs.length i).bind fun j => xs[j]?
theorem ixN_seq {n : Nat} {i : Int} {j : Nat} (h : ixN n i = some j) : seqIndex? i n = some j ∧ j < n ∧ -(n : Int) ≤ i ∧ i < n := by
  unfold ixN at h
  by_cases h0 : 0 ≤ i
  · rw [if_pos h0] at h
    by_cases h1 : i < n
    · rw [if_pos h1] at h
      have e : i.toNat = j := Option.some.inj h
      exact ⟨by rw [seqIndex_of h0 h1, e], by (first | lia | omega), by (first | lia | omega), h1⟩
    · rw [if_neg h1] at h; cases h
  · rw [if_neg h0] at h
    by_cases h1 : -(n : Int) ≤ i
    · rw [if_pos h1] at h
      have e : (i + n).toNat = j := Option.some.inj h
      exact ⟨by rw [seqIndex_neg (by (first | lia | omega)) h1, e], by (first | lia | omega), h1, by (first | lia | omega)⟩
    · rw [if_neg h1] at h; cases h
theorem atI_get {α : Type} {xs : List α} {i : Int} {v : α} (h : atI xs i = some v) : ∃ j, seqIndex? i xs.length = some j ∧ xs[j]? = some v ∧ j < xs.length ∧ -(xs.length : Int) ≤ i ∧ i < xs.length := by
  unfold atI at h
  cases e : ixN xs.length i with
  | none => rw [e] at h; cases h
  | some j =>
    rw [e] at h
    obtain ⟨h1, h2, h3, h4⟩ := ixN_seq e
    exact ⟨j, h1, h, h2, h3, h4⟩
theorem atI_nat {α : Type} {xs : List α} {j : Nat} {v : α} (h : xs[j]? = some v) : atI xs (j : Int) = some v := by
  have hj : j < xs.length := (List.getElem?_eq_some_iff.mp h).1
  have e : ixN xs.length (j : Int) = some j := by
    unfold ixN
    rw [if_pos (by (first | lia | omega)), if_pos (by (first | lia | omega))]; simp
  unfold atI; rw [e]; exact h
/-! ### what may be subscripted -/
/-- what stands as an index of a plain subscript -/
noncomputable def PlainIx (b : Expr) : Prop := ∀ o i, subscripted b false o i = operate [o, i] (getItem o i)
/-- a subscript by values -/
noncomputable def IxR (X : Cx) (r : R2) : Prop :=
  ∀ (value slice : Expr) (pins : List (Addr × Obj)) (s : Shared) (σ : St) (H : Hp) (x y : V) (v u : Value) (Q : VK), Inv X pins σ H s → RelV x v → RelV y u → r x y H Q →
    subscripted slice false v u = operate [v, u] (getItem v u) → wpAny (model X.prog X.w) X.A (subscriptTail value slice v u) (EP X pins σ Q) X.xe s
/-- a call of a builtin's method by values: the receiver, the arguments -/
noncomputable def MtR (X : Cx) (id : String) (r : V → List V → Hp → VK → Prop) : Prop :=
  ∀ (pins : List (Addr × Obj)) (s : Shared) (σ : St) (H : Hp) (x : V) (xs : List V) (v : Value) (us : List Value) (Q : VK), Inv X pins σ H s → RelV x v → Vals xs us → r x xs H Q →
    wpAny (model X.prog X.w) X.A (call (.builtin id) (v :: us)) (EP X pins σ Q) X.xe s
section
variable {X : Cx} {a b : Expr} {ta tb : TE} {pos : Pos}
/-- a[b] -/
theorem pe_ix {r : R2} (hr : IxR X r) (ha : PE X a ta) (hb : PE X b tb) (hs : PlainIx b) : PE X (.Subscript a b pos) (tOp r ta tb) := by
  intro pins s σ H Q I h
  exact Subscript_ (binT ha hb I h fun v u s2 x y H2 I2 rx ry q => hr a b pins s2 σ H2 x y v u Q I2 rx ry q (hs _ _))

inductive I_rIxL (K : PySem.W.Frag) (x y : V) (H : Hp) (Q : VK) : Prop where
  | mk (p : Addr) (xs : List V) (i : Int) (v : V) (h0_ : x = .ref p) (h1_ : y = .int i) (h2_ : SqL K H p xs) (h3_ : atI xs i = some v) (h4_ : Q v H) : I_rIxL K x y H Q
noncomputable def rIxL (K : PySem.W.Frag) : R2 := fun x y H Q => I_rIxL K x y H Q
inductive I_rIxT (K : PySem.W.Frag) (x y : V) (H : Hp) (Q : VK) : Prop where
  | mk (p : Addr) (xs : List V) (i : Int) (v : V) (h0_ : x = .ref p) (h1_ : y = .int i) (h2_ : SqT K H p xs) (h3_ : atI xs i = some v) (h4_ : Q v H) : I_rIxT K x y H Q
noncomputable def rIxT (K : PySem.W.Frag) : R2 := fun x y H Q => I_rIxT K x y H Q
theorem ix_list : IxR X (rIxL X.K) := by
  intro value slice pins s σ H x y v u Q I rx ry h hs
  obtain ⟨p, xs, i, z, rfl, rfl, hq, he, q⟩ := h
  cases rx
  obtain ⟨t, rfl⟩ := ry
  obtain ⟨its, r, pl, hz⟩ := I.list hq
  obtain ⟨j, h1, h2, h3, h4, h5⟩ := atI_get he
  obtain ⟨w, ew, rw'⟩ := r.get h2
  have hl := r.length
  have hn := line63
  have fin : EP X pins σ Q w s := ⟨z, H, I, rw', q⟩
  by_cases h0 : 0 ≤ i
  · have hj : i.toNat = j := by
      rw [seqIndex_of h0 h5] at h1
      exact Option.some.inj h1
    exact item_listR pl.isList h0 (by (first | lia | omega)) (by rw [hj]; simpa using ew) fin hs
  · have hj : (i + (its.toArray.size : Int)).toNat = j := by
      rw [seqIndex_neg (by (first | lia | omega)) h4] at h1
      rw [List.size_toArray, ← hl]
      exact Option.some.inj h1
    exact subscriptTail_builtinR (x := w) pl.isList.typeIs slot_list_getitem.lookup
      (wpAny_getItem_list_neg (Q := fun r s' => r = w ∧ EP X pins σ Q r s') pl.isList (by (first | lia | omega)) (by rw [List.size_toArray] <;> (first | lia | omega)) (by (first | lia | omega)) (by rw [hj]; simpa using ew) ⟨rfl, fin⟩) hs
theorem ix_tup : IxR X (rIxT X.K) := by
  intro value slice pins s σ H x y v u Q I rx ry h hs
  obtain ⟨p, xs, i, z, rfl, rfl, hq, he, q⟩ := h
  cases rx
  obtain ⟨t, rfl⟩ := ry
  obtain ⟨its, r, pl, hz⟩ := I.tuple hq
  obtain ⟨j, h1, h2, h3, h4, h5⟩ := atI_get he
  obtain ⟨w, ew, rw'⟩ := r.get h2
  have hl := r.length
  have hn := line63
  have fin : EP X pins σ Q w s := ⟨z, H, I, rw', q⟩
  exact subscriptTail_builtinR (x := w) pl.typeIs slot_tuple_getitem.lookup
    (getItem_tuple (j := j) (Q := fun r s' => r = w ∧ EP X pins σ Q r s') pl (by (first | lia | omega)) (by (first | lia | omega)) (by rw [List.size_toArray, ← hl]; exact h1) (by simpa using ew) ⟨rfl, fin⟩) hs
/-! ### xs[i] = v, any sign -/
/-- the list's object behind a store -/
theorem mapSeq_set (its : List Value) (n j : Nat) (u : Value) : Obj.mapSeq (·.setIfInBounds j u) { cls := .type "list", data := .seq its.toArray n } = { cls := .type "list", data := .seq (its.set j u).toArray n } := by
  simp [Obj.mapSeq]
theorem Inv.lst {pins : List (Addr × Obj)} {σ : St} {H : Hp} {s : Shared} {p : Addr} {xs : List V} (I : Inv X pins σ H s) (h : H p = some (.lst xs)) :
    ∃ (its : List Value) (n : Nat), Vals xs its ∧ s.heap.get? p = some { cls := .type "list", data := .seq its.toArray n } ∧ xs.length ≤ sizeLine := by
  obtain ⟨z, its, n, r, e⟩ := I.hok p _ h
  exact ⟨its, n, r, e, z⟩
/-- the list at p is written by an update of its object -/
theorem Inv.lstUpd {pins : List (Addr × Obj)} {σ : St} {H : Hp} {s : Shared} {p : Addr} {xs ys : List V} {its its' : List Value} {n n' : Nat} {f : Obj → Obj} (I : Inv X pins σ H s) (h : H p = some (.lst xs))
    (ho : s.heap.get? p = some { cls := .type "list", data := .seq its.toArray n }) (hf : f { cls := .type "list", data := .seq its.toArray n } = { cls := .type "list", data := .seq its'.toArray n' }) (r : Vals ys its') (hz : ys.length ≤ sizeLine) (t : Nat) :
    Inv X pins σ (upd H p (.lst ys)) { s with heap := s.heap.update p f, toks := t } := by
  have e : (s.heap.update p f).get? p = some { cls := .type "list", data := .seq its'.toArray n' } := by
    rw [Heap.get?_update_self f ho (by rw [hf] <;> rfl), hf]
  refine I.write (x := p) (e := p) (by rw [h]; trivial) (.inl rfl) (fun b u hb q => (Heap.get?_update_other _ _ (Ne.symm hb)).trans q) ⟨_, e⟩ ?_
  exact ⟨hz, its', n', r, e⟩
inductive I_rSetL (o i v : V) (H : Hp) (Q : Hp → Prop) : Prop where
  | mk (p : Addr) (xs : List V) (k : Int) (j : Nat) (h0_ : o = .ref p) (h1_ : i = .int k) (h2_ : H p = some (.lst xs)) (h3_ : ixN xs.length k = some j) (h4_ : Q (upd H p (.lst (xs.set j v)))) : I_rSetL  o i v H Q
noncomputable def rSetL : V → V → V → Hp → (Hp → Prop) → Prop := fun o i v H Q => I_rSetL  o i v H Q
theorem set_list : PSet X rSetL := by
  intro pins s σ H o i v ov iv u Q I ro ri rv h
  obtain ⟨p, xs, k, j, rfl, rfl, hp, hj, q⟩ := h
  cases ro
  obtain ⟨t, rfl⟩ := ri
  obtain ⟨its, n, r, ho, hz⟩ := I.lst hp
  obtain ⟨h1, h2, h3, h4⟩ := ixN_seq hj
  have hl := r.length
  have hn := line63
  have I' : Inv X pins σ (upd H p (.lst (xs.set j v))) { s with heap := s.heap.update p (Obj.mapSeq (·.setIfInBounds j u)) } :=
    I.lstUpd hp ho (mapSeq_set its n j u) (r.set rv j) (by rw [List.length_set]; exact hz) s.toks
  by_cases h0 : 0 ≤ k
  · have hk : k.toNat = j := by
      rw [seqIndex_of h0 h4] at h1
      exact Option.some.inj h1
    exact PySem.W.ki_setAt ho h0 (by (first | lia | omega)) (by rw [List.size_toArray, ← hl]; exact h4) (by rw [hk]; exact ⟨_, I', q⟩)
  · have hk : (k + (its.toArray.size : Int)).toNat = j := by
      rw [seqIndex_neg (by (first | lia | omega)) h3] at h1
      rw [List.size_toArray, ← hl]
      exact Option.some.inj h1
    exact PySem.W.ki_setBack ho (by (first | lia | omega)) (by rw [List.size_toArray, ← hl]; exact h3) (by (first | lia | omega)) (by rw [hk]; exact ⟨_, I', q⟩)

/-! ### slices -/
theorem slice_bounds (lo hi : Option Int) (n : Nat) : (sliceBounds lo hi none n).1 = ((HT.sIx n 0 lo : Nat) : Int) ∧ (sliceBounds lo hi none n).2.1 = ((HT.sIx n n hi : Nat) : Int) ∧ (sliceBounds lo hi none n).2.2 = 1 := by
  refine ⟨?_, ?_, rfl⟩
  · cases lo with
    | none => simp [sliceBounds, HT.sIx]
    | some i =>
      simp only [sliceBounds, HT.sIx, Option.getD_none, show (1 : Int) > 0 by decide, if_true]
      by_cases h : i < 0
      · simp only [h, if_true] <;> (first | lia | omega)
      · simp only [h, if_false] <;> (first | lia | omega)
  · cases hi with
    | none => simp [sliceBounds, HT.sIx]
    | some i =>
      simp only [sliceBounds, HT.sIx, Option.getD_none, show (1 : Int) > 0 by decide, if_true]
      by_cases h : i < 0
      · simp only [h, if_true] <;> (first | lia | omega)
      · simp only [h, if_false] <;> (first | lia | omega)
theorem slicePick_cut (its : List Value) (lo hi : Option Int) : slicePick its.toArray lo hi none = ((its.drop (HT.sIx its.length 0 lo)).take (HT.sIx its.length its.length hi - HT.sIx its.length 0 lo)).toArray := by
  obtain ⟨h1, h2, h3⟩ := slice_bounds lo hi its.toArray.size
  unfold slicePick
  rw [h1, h2, h3]
  simp only [sliceRange_one, pick_run, List.size_toArray] <;> rfl
/-- xs[lo:hi] of a list: a new list -/
inductive I_rSlL (K : PySem.W.Frag) (x : V) (lo hi : Option Int) (H : Hp) (Q : VK) : Prop where
  | mk (a : Addr) (xs : List V) (h0_ : x = .ref a) (h1_ : SqL K H a xs) (h2_ : ∀ p, H p = none → Q (.ref p) (upd H p (.lst (cutV xs lo hi)))) : I_rSlL K x lo hi H Q
noncomputable def rSlL (K : PySem.W.Frag) : V → Option Int → Option Int → Hp → VK → Prop := fun x lo hi H Q => I_rSlL K x lo hi H Q
theorem sl_list : SlR X (rSlL X.K) := by
  intro pins s σ H x v vl vu lo hi sl Q I rx hs pl pu h
  obtain ⟨a, xs, rfl, hx, q⟩ := h
  cases rx
  obtain ⟨its, r, ht, hz⟩ := I.list hx
  have hlen := r.length
  refine ⟨"list", _, slot_list_getitem.lookup, ht.isList.typeIs, ?_⟩
  refine wpAny_getItem_list_slice ht.isList hs pl pu .none (by simp) ?_ (by rw [List.size_toArray] <;> (first | lia | omega))
  rw [slicePick_cut, ← hlen]
  refine ⟨.ref s.heap.objs.size, _, I.laid (t' := s.toks) (o := .lst (cutV xs lo hi)) (fun b ob q => Heap.get?_push_of_some _ q) (Nat.le_refl _) ?_, rfl, q _ (I.hok.fresh (Nat.le_refl _))⟩
  exact ⟨Nat.le_trans (cutV_length xs lo hi) hz, _, 0, (r.drop (HT.sIx xs.length 0 lo)).take (HT.sIx xs.length xs.length hi - HT.sIx xs.length 0 lo), Heap.get?_push_size _ rfl⟩

/-! ### in, not in: flat items -/
/-! ### len, list(x), tuple(x) of any list or tuple that is read -/
theorem call_len_seq : CallR X (.builtin "len") (fun xs H Q => ∃ p ys, xs = [.ref p] ∧ (SqL X.K H p ys ∨ SqT X.K H p ys) ∧ Q (.int ys.length) H) := by
  intro pins s σ H xs us Q I r h
  obtain ⟨p, ys, rfl, hq, q⟩ := h
  obtain ⟨u, rfl, rx⟩ := vals1 r
  cases rx
  have hn := line63
  rcases hq with hq | hq
  · obtain ⟨its, r', pl, hz⟩ := I.list hq
    have hlen := r'.length
    exact Calls.call_len_list pl.isList (by simp only [List.size_toArray] <;> (first | lia | omega)) ⟨.int ys.length, H, I.tok _, ⟨s.toks + 1, by rw [List.size_toArray, hlen]⟩, q⟩
  · obtain ⟨its, r', pl, hz⟩ := I.tuple hq
    have hlen := r'.length
    exact len_tuple pl (by simp only [List.size_toArray] <;> (first | lia | omega)) ⟨.int ys.length, H, I.tok _, ⟨s.toks + 1, by rw [List.size_toArray, hlen]⟩, q⟩
theorem call_list_of : CallR X (.type "list") (fun xs H Q => ∃ p ys, xs = [.ref p] ∧ (SqL X.K H p ys ∨ SqT X.K H p ys) ∧ ∀ l, H l = none → Q (.ref l) (upd H l (.lst ys))) := by
  intro pins s σ H xs us Q I r h
  obtain ⟨p, ys, rfl, hq, q⟩ := h
  obtain ⟨u, rfl, rx⟩ := vals1 r
  cases rx
  have fin : ∀ (its : List Value), Vals ys its → ys.length ≤ sizeLine → ∀ (h' : Heap) (c' : Nat), (∀ b o', s.heap.get? b = some o' → h'.get? b = some o') →
      h'.get? s.heap.objs.size = some { cls := .type "list", dict := none, data := .seq its.toArray c', slots := #[] } → EP X pins σ Q (.ref s.heap.objs.size) { s with heap := h' } := fun its r' hz h' c' kp e =>
    ⟨.ref s.heap.objs.size, _, I.laid (t' := s.toks) kp (Nat.le_refl _) (show ObjOk X.prog X.w _ h' _ (.lst ys) from ⟨hz, its, c', r', e⟩), rfl, q _ (I.hok.fresh (Nat.le_refl _))⟩
  rcases hq with hq | hq
  · obtain ⟨its, r', pl, hz⟩ := I.list hq
    have hlen := r'.length
    obtain ⟨o, ho, hc, n, hd⟩ := pl.isList
    exact call_list_seq p (.inl rfl) ho hc hd (fun h' c' kp e => fin its r' hz h' c' kp e) (by simp only [List.size_toArray] <;> (first | lia | omega))
  · obtain ⟨its, r', pl, hz⟩ := I.tuple hq
    have hlen := r'.length
    obtain ⟨o, ho, hc, n, hd⟩ := pl
    exact call_list_seq p (.inr rfl) ho hc hd (fun h' c' kp e => fin its r' hz h' c' kp e) (by simp only [List.size_toArray] <;> (first | lia | omega))
/-! ### the call of a builtin's method: o.m(..) -/
/-- the value is of that builtin type -/
noncomputable def tyV (K : PySem.W.Frag) (T : String) (x : V) (H : Hp) : Prop := match x with
  | .str _ => T = "str"
  | .int _ => T = "int"
  | .ref p => (T = "list" ∧ ∃ xs, SqL K H p xs) ∨ (T = "tuple" ∧ ∃ o, K.lookup p = some o ∧ o.cls = .type "tuple" ∧ o.dict = none) ∨
      (T = "dict" ∧ ((∃ kvs, H p = some (.dK kvs)) ∨ ∃ kvs, H p = some (.dT kvs))) ∨ (T = "set" ∧ ∃ S n, H p = some (.set S n))
  | _ => False
theorem tyV_is {pins : List (Addr × Obj)} {σ : St} {H : Hp} {s : Shared} {T : String} {x : V} {v : Value} (I : Inv X pins σ H s) (r : RelV x v) (ty : tyV X.K T x H) :
    s.TypeIs v T ∧ ∀ a, v = .ref a → ∃ ob, s.heap.get? a = some ob ∧ ob.dict = none := by
  cases x with
  | str z =>
    obtain ⟨t, rfl⟩ := r
    cases (show T = "str" from ty)
    exact ⟨typeIs_str s z t, fun _ e => nomatch e⟩
  | int i =>
    obtain ⟨t, rfl⟩ := r
    cases (show T = "int" from ty)
    exact ⟨typeIs_int s i t, fun _ e => nomatch e⟩
  | ref p =>
    cases r
    rcases ty with ⟨rfl, xs, hq⟩ | ⟨rfl, o, hk, hc, hd⟩ | ⟨rfl, hk⟩ | ⟨rfl, S, n, hk⟩
    · obtain ⟨its, _, pl, _⟩ := I.list hq
      refine ⟨pl.isList.typeIs, fun a e => ?_⟩
      cases e
      obtain ⟨o, n, e, c, hd, _⟩ := pl
      exact ⟨o, e, hd⟩
    · refine ⟨⟨o, I.kIn p o hk, hc⟩, fun a e => ?_⟩
      cases e
      exact ⟨o, I.kIn _ o hk, hd⟩
    · have z : ∃ o, s.heap.get? p = some o ∧ o.ExactDict := by
        rcases hk with ⟨kvs, hk⟩ | ⟨kvs, hk⟩
        · obtain ⟨_, _, _, _, o, _, _, e, ex, _⟩ := I.hok p _ hk
          exact ⟨o, e, ex⟩
        · obtain ⟨_, _, _, _, o, _, _, e, ex, _⟩ := I.hok p _ hk
          exact ⟨o, e, ex⟩
      obtain ⟨o, e, ex⟩ := z
      refine ⟨⟨o, e, ex.1⟩, fun a e2 => ?_⟩
      cases e2
      exact ⟨o, e, ex.2.1⟩
    · obtain ⟨o, _, _, _, e, ex, _⟩ := I.hok p _ hk
      refine ⟨⟨o, e, ex.1⟩, fun a e2 => ?_⟩
      cases e2
      exact ⟨o, e, ex.2.1⟩
  | _ => exact False.elim ty
noncomputable def tBM (K : PySem.W.Frag) (T : String) (r : V → List V → Hp → VK → Prop) (to : TE) (t : TA) : TE := fun σ H Q => to σ H fun x H1 => tyV K T x H1 ∧ t σ H1 fun xs H2 => r x xs H2 Q
variable {o e : Expr} {es : List Expr} {to : TE} {t : TA} {name : Str} {apos cpos : Pos} {T id : String} {r : V → List V → Hp → VK → Prop}
theorem pe_bm (pa : PlainAttrs T) (slot : Slot T name id) (hty : typeOf (.builtin id) = pure (.type "method_descriptor")) (hm : MtR X id r) (ho : PE X o to) (ha : PA X (e :: es) t)
    (hbase : attributeBase o name X.env (eval o X.env) = eval o X.env := by rfl)
    (hfew : ((backTo cpos (starEach (e :: es) X.env)).all (fun x => !x.1) && (backToKw cpos (keywordEach [] X.env)).all (fun x => x.1.isSome)
      && decide ((e :: es).length + ([] : List Keyword).length + (if ([] : List Keyword).isEmpty then 0 else 1) < 30)) = true := by rfl)
    (hline : (apos.endLine == cpos.line) = true := by rfl) (hs : starEach (e :: es) X.env = (false, eval e X.env) :: starEach es X.env := by rfl) (hplain : (backTo cpos (starEach es X.env)).any (·.1) = false := by rfl) :
    PE X (.Call (.Attribute o name apos) (e :: es) [] cpos) (tBM X.K T r to t) := by
  intro pins s σ H Q I h
  refine wpAny_Call_method_late hbase hfew hline rfl (thn (ho pins s σ H _ I h) fun v s1 ⟨x, H1, I1, r1, ty, q1⟩ => ?_)
  obtain ⟨h1, h2⟩ := tyV_is I1 r1 ty
  refine ⟨T, id, pa, slot, hty, h1, h2, ?_⟩
  have hA := ha cpos pins s1 σ H1 _ I1 q1
  rw [hs] at hA ⊢
  refine Calls.callWith_builtin (by show (false || (backTo cpos (starEach es X.env)).any (·.1)) = false; rw [hplain] <;> rfl) (Calls.evalArgs_plain ?_)
  exact thn hA fun us s2 ⟨vs, H2, I2, r2, q2⟩ => hm pins s2 σ H2 x vs v us Q I2 r1 r2 q2
/- xs.append(e), list.index on a module's tuple .. are MtR facts of 06m -/
end
end L2

namespace L2
open PySem PySem.Spec PyProof.Rows

noncomputable def MtM (X : Cx) (id : String) (r : V → List V → Hp → VK → Prop) : Prop :=
  ∀ (pins : List (Addr × Obj)) (s : Shared) (σ : St) (H : Hp) (x : V) (xs : List V) (v : Value) (us : List Value) (Q : VK), Inv X pins σ H s → RelV x v → Vals xs us → r x xs H Q →
    wpAny (model X.prog X.w) X.A (call (.builtin id) (v :: us)) (EP X pins σ Q) X.xe s

/-! ### lists of values -/
theorem Vals.one : ∀ {x : V} {us : List Value}, Vals [x] us → ∃ u, us = [u] ∧ RelV x u
  | _, _, .cons r .nil => ⟨_, rfl, r⟩
theorem Vals.two : ∀ {x y : V} {us : List Value}, Vals [x, y] us → ∃ u v, us = [u, v] ∧ RelV x u ∧ RelV y v
  | _, _, _, .cons r (.cons q .nil) => ⟨_, _, rfl, r, q⟩
theorem Vals.eraseIdx : ∀ {xs : List V} {us : List Value} (i : Nat), Vals xs us → Vals (xs.eraseIdx i) (us.eraseIdx i)
  | _, _, _, .nil => .nil
  | _, _, 0, .cons _ t => t
  | _, _, i + 1, .cons r t => .cons r (Vals.eraseIdx i t)
theorem len_erase {α : Type} : ∀ (l : List α) (i : Nat), (l.eraseIdx i).length ≤ l.length
  | [], _ => Nat.le_refl _
  | _ :: _, 0 => Nat.le_succ _
  | _ :: r, i + 1 => Nat.succ_le_succ (len_erase r i)
section
variable {X : Cx} {pins : List (Addr × Obj)} {σ : St} {H : Hp} {s : Shared} {l b : Addr} {xs ys zs : List V}

/-! ### the two steps: a tracked list is rewritten, a new list is laid -/
theorem Inv.lset {its its' : List Value} {n : Nat} {f : Array Value → Array Value} {t' : Nat} (I : Inv X pins σ H s) (hH : H l = some (.lst xs))
    (e : s.heap.get? l = some { cls := .type "list", data := .seq its.toArray n }) (hf : f its.toArray = its'.toArray) (hv : Vals ys its') (hz : ys.length ≤ sizeLine) :
    Inv X pins σ (upd H l (.lst ys)) { s with heap := s.heap.update l (Obj.mapSeq f), toks := t' } := by
  have q := PySem.IsL.update e f
  rw [hf] at q
  refine I.write (x := l) (e := l) (by rw [hH]; exact trivial) (.inl rfl) (fun b' u hb hu => (Heap.get?_update_other s.heap (Obj.mapSeq f) (Ne.symm hb)).trans hu) ⟨_, q⟩ ?_
  exact ⟨hz, its', _, hv, q⟩
theorem Inv.lnew {its : List Value} {t' : Nat} (I : Inv X pins σ H s) (hv : Vals ys its) (hz : ys.length ≤ sizeLine) :
    Inv X pins σ (upd H s.heap.objs.size (.lst ys)) { s with heap := s.heap.push { cls := .type "list", data := .seq its.toArray }, toks := t' } :=
  I.laid (fun _ _ q => Heap.get?_push_of_some _ q) (Nat.le_refl _) ⟨hz, its, 0, hv, Heap.get?_push_size _ rfl⟩
theorem Inv.fresh (I : Inv X pins σ H s) : H s.heap.objs.size = none := I.hok.fresh (Nat.le_refl _)
theorem Inv.lstM (I : Inv X pins σ H s) (hH : H l = some (.lst xs)) : xs.length ≤ sizeLine ∧ ∃ (its : List Value) (n : Nat), Vals xs its ∧ xs.length = its.length ∧ s.heap.get? l = some { cls := .type "list", data := .seq its.toArray n } := by
  obtain ⟨z, its, n, r, e⟩ := I.hok l _ hH
  exact ⟨z, its, n, r, r.length, e⟩

theorem notLongL {n : Nat} (h : n ≤ sizeLine) : Builtin.List.listTooLong n = false := by
  unfold Builtin.List.listTooLong
  exact decide_eq_false (by (first | lia | omega))
end

section
variable {X : Cx}

/-! ### methods -/
inductive I_rAppend (x : V) (vs : List V) (H : Hp) (Q : VK) : Prop where
  | mk (l : Addr) (xs : List V) (y : V) (h0_ : x = .ref l) (h1_ : vs = [y]) (h2_ : H l = some (.lst xs)) (h3_ : xs.length < sizeLine) (h4_ : Q .non (upd H l (.lst (xs ++ [y])))) : I_rAppend  x vs H Q
noncomputable def rAppend : V → List V → Hp → VK → Prop := fun x vs H Q => I_rAppend  x vs H Q
theorem mt_append : MtM X "list.append" rAppend := by
  intro pins s σ H x vs v us Q I rx rv h
  obtain ⟨l, xs, y, rfl, rfl, hH, hz, q⟩ := h
  cases rx
  obtain ⟨u, rfl, ru⟩ := rv.one
  obtain ⟨z, its, n, r, hl, e⟩ := I.lstM hH
  refine call_meets F.slot_list_append ⟨_, e, rfl⟩ F.entry_list_append (F.args_list_append_2 _ _) (PySem.list_append l its.toArray n u (by rw [List.size_toArray]; (first | lia | omega))) ⟨e, ?_⟩
  refine ⟨.non, _, I.lset (its' := its ++ [u]) hH e (by simp) (r.append (.cons ru .nil)) ?_, rfl, q⟩
  rw [List.length_append, List.length_singleton]
  (first | lia | omega)

noncomputable def rExtend : V → List V → Hp → VK → Prop := fun x vs H Q => ∃ l b xs zs, x = .ref l ∧ vs = [.ref b] ∧ H l = some (.lst xs) ∧ H b = some (.lst zs) ∧ xs.length + zs.length ≤ sizeLine ∧ Q .non (upd H l (.lst (xs ++ zs)))
theorem mt_extend : MtM X "list.extend" rExtend := by
  intro pins s σ H x vs v us Q I rx rv h
  obtain ⟨l, b, xs, zs, rfl, rfl, hH, hB, hz, q⟩ := h
  cases rx
  obtain ⟨u, rfl, ru⟩ := rv.one
  cases ru
  obtain ⟨z, its, n, r, hl, e⟩ := I.lstM hH
  obtain ⟨z2, its2, n2, r2, hl2, e2⟩ := I.lstM hB
  have hsz : its.toArray.size + its2.toArray.size ≤ sizeLine := by rw [List.size_toArray, List.size_toArray]; (first | lia | omega)
  have hlong : ¬ (!its.toArray.isEmpty && Builtin.List.listTooLong (its.toArray.size + its2.toArray.size)) = true := by
    rw [notLongL hsz, Bool.and_false]
    exact Bool.false_ne_true
  refine call_meets F.slot_list_extend ⟨_, e, rfl⟩ F.entry_list_extend (F.args_list_extend_2 _ _)
    (AutoSeq1.list_extend_list_list_0 l its.toArray n b its2.toArray n2 hlong (by rw [List.size_toArray]; (first | lia | omega)) (by (first | lia | omega))) ⟨e, e2, ?_⟩
  refine ⟨.non, _, I.lset (its' := its ++ its2) hH e (by simp) (r.append r2) ?_, rfl, q⟩
  rw [List.length_append]
  (first | lia | omega)

noncomputable def rPopAt : V → List V → Hp → VK → Prop := fun x vs H Q => ∃ l xs i k y, x = .ref l ∧ vs = [.int i] ∧ H l = some (.lst xs) ∧ -(2 ^ 63) ≤ i ∧ i < 2 ^ 63 ∧ seqIndex? i xs.length = some k ∧ xs[k]? = some y ∧ Q y (upd H l (.lst (xs.eraseIdx k)))
theorem mt_popAt : MtM X "list.pop" rPopAt := by
  intro pins s σ H x vs v us Q I rx rv h
  obtain ⟨l, xs, i, k, y, rfl, rfl, hH, h1, h2, hk, hy, q⟩ := h
  cases rx
  obtain ⟨u, rfl, ru⟩ := rv.one
  obtain ⟨t, rfl⟩ := ru
  obtain ⟨z, its, n, r, hl, e⟩ := I.lstM hH
  obtain ⟨w, hw, rw'⟩ := r.get hy
  refine call_meets F.slot_list_pop ⟨_, e, rfl⟩ F.entry_list_pop (F.args_list_pop_2 _ _)
    (MeetsSeq.list_pop_at l its.toArray n i t k w (fitsIndex_both h1 h2) (by rw [List.size_toArray, ← hl]; exact hk) (by rw [← Array.getElem?_toList]; exact hw) (by rw [List.size_toArray]; (first | lia | omega))) ⟨e, ?_⟩
  refine ⟨y, _, I.lset (its' := its.eraseIdx k) hH e ?_ (r.eraseIdx k) ?_, rw', q⟩
  · show its.toArray.eraseIdxIfInBounds k = (its.eraseIdx k).toArray
    rw [List.eraseIdxIfInBounds_toArray]
  · have := len_erase xs k
    (first | lia | omega)

/-! ### list + list, list += list, list * int -/
inductive I_rCat (x y : V) (H : Hp) (Q : VK) : Prop where
  | mk (l b : Addr) (xs zs : List V) (h0_ : x = .ref l) (h1_ : y = .ref b) (h2_ : H l = some (.lst xs)) (h3_ : H b = some (.lst zs)) (h4_ : xs.length + zs.length ≤ sizeLine) (h5_ : ∀ p, H p = none → Q (.ref p) (upd H p (.lst (xs ++ zs)))) : I_rCat  x y H Q
noncomputable def rCat : R2 := fun x y H Q => I_rCat  x y H Q
theorem op_cat : OpR X (binaryOp .Add) rCat := by
  intro pins s σ H x y v u Q I rx ry h
  obtain ⟨l, b, xs, zs, rfl, rfl, hH, hB, hz, q⟩ := h
  cases rx
  cases ry
  obtain ⟨z, its, n, r, hl, e⟩ := I.lstM hH
  obtain ⟨z2, its2, n2, r2, hl2, e2⟩ := I.lstM hB
  refine PySem.P.add_list e e2 ?_ (by rw [List.size_toArray, List.size_toArray]; (first | lia | omega))
  have ea : its.toArray ++ its2.toArray = (its ++ its2).toArray := by simp
  rw [ea]
  exact ⟨.ref _, _, I.lnew (t' := s.toks) (r.append r2) (by rw [List.length_append]; (first | lia | omega)), rfl, q _ I.fresh⟩
/-! ### del xs[i] -/
end

/-! ### xs[a:b] = ys -/
section
variable {prog : Program} {w : World} {A : Around} {E : Value → Shared → Prop} {s : Shared}
end

section
variable {X : Cx}
end
end L2

namespace Att
open PySem PySem.W PySem.Calls PyProof.Rows

/-! ### the script -/
theorem ints_of_wellAll {P : Params} {h : Heap} : ∀ (ns : List Int) (vs : List Value), WellAll P h vs (ns.map WData.int) → IntsAre vs ns := by
  intro ns
  induction ns with
  | nil =>
    intro vs w
    rw [List.map_nil] at w
    cases w
    exact .nil
  | cons n ns ih =>
    intro vs w
    rw [List.map_cons] at w
    cases w with
    | cons a b =>
      cases a
      exact .cons _ _ (ih _ b)

theorem script_of {l : OpenLaw} {n : Nat} (hn : l.most = some n) {P : Params} {h : Heap} {args : List WData} {vals : List Value}
    (hpre : l.row.toRowW.claim.pre args = true) (hwl : WellAll P h vals args) :
    ∃ a vs ns, vals = [Value.ref a] ∧ args = [WData.list (ns.map WData.int)] ∧ h.get? a = some { cls := .type "list", data := .seq vs.toArray } ∧ IntsAre vs ns ∧ ns.length ≤ n := by
  have hsh : WShape.hasAll [] args [.list .int] = true := (pre_splitW hpre).1
  have hc : l.pre.holds [] { args := args } = true := (pre_splitW hpre).2
  obtain ⟨d, r, rfl, h1, h2⟩ := hasAllW_cons hsh
  obtain rfl := hasAllW_nil h2
  obtain ⟨xs, rfl, h3⟩ := hasW_list h1
  obtain ⟨ns, rfl⟩ := items_int h3
  have hlen : ns.length ≤ n := by
    unfold OpenLaw.pre at hc
    have h4 : (WTm.not (.lt (.lit (.int (n : Int))) (.len (.arg 0)))).holds [] { args := [.list (ns.map .int)] } = true := by
      have h4 := (holds_andW hc).1
      rw [hn] at h4
      exact h4
    have h5 := condW_of h4 (w_not (w_lt w_lit (w_len_list (w_arg rfl))))
    rw [List.length_map] at h5
    refine Nat.le_of_not_lt fun q => ?_
    have q' : (n : Int) < ((ns.length : Nat) : Int) := by (first | lia | omega)
    first
      | (rw [decide_eq_true q'] at h5; exact absurd h5 (by decide))
      | (simp at h5; (first | lia | omega))
  cases hwl with
  | cons w1 w2 =>
    cases w2
    cases w1 with
    | list ho hall => exact ⟨_, _, ns, rfl, rfl, ho, ints_of_wellAll ns _ hall, hlen⟩

theorem post_true (l : OpenLaw) (args : List WData) : l.row.toRowW.claim.post args (.bool true) args = true :=
  postW_of (r := l.row.toRowW) (X := (true == true))
    (show WShape.has [] (.bool true) .bool = true by first | rfl | decide | simp [WShape.has, WShape.arms, WShape.armsAll])
    (show (WTm.eq .res (.lit (.bool true))).value [] { args := args, res := some (.bool true), after := args } = some (.bool (true == true)) from w_eq_bool (w_res rfl) w_lit) rfl

/-! ### the attachment: holds_open's last premise (the goal 'hc' behind k_head) from a wpAny of the law's body -/
/-- the same from a codeAny of the CALL (for a layer whose function contracts speak of calls) -/
theorem attach_call {l : OpenLaw} {n : Nat} {q : Program} {loose : List Str} {XP : (Str → Option Value) → Heap → Prop} {YP : World → Heap → Prop} {d : DefRec}
    (hn : l.most = some n) (hdf : d.params.defaults = [])
    (call : ∀ (w : World) (s₀ s₁ : Shared) (mg mb : Str → Option Value) (fa : Addr) (o : Obj) (pm cd doc : Value) (a : Addr) (vs : List Value) (ns : List Int),
      Ground q loose [] XP w s₀ mg mb s₁.heap → YP w s₁.heap →
      s₁.heap.get? fa = some o → o.data = .func (docDef d.name d.params d.body d.scope pm cd doc) → s₁.heap.CodeRec cd d.name → mg d.name = some (.ref fa) →
      s₁.heap.get? a = some { cls := .type "list", data := .seq vs.toArray } → IntsAre vs ns → ns.length ≤ n → s₁.gens = #[] →
      codeAny (model l.prog w) callerA (.call (.ref fa) ⟨[.ref a], []⟩) (fun r s' => r = .ok (.ret (.bool true)) ∧ OldK s₁.heap s'.heap ∧ s'.os = s₁.os ∧ AllBare s'.gens) s₁) :
    WalkO q loose XP YP l.row.toRowW d [] (fun f vs => PySem.call f vs) := by
  intro w s₀ s₁ mg mb G Y fa o pm cd doc dV kV ho hd hcd hD hmg hg args vals as hpre hlay hrd hwl hlo
  obtain rfl : dV = .none := Dflts.none hD hdf
  obtain rfl : kV = .none := Dflts.noKw hD
  obtain ⟨a, vs, ns, rfl, rfl, hobj, hints, hlen⟩ := script_of hn hpre hwl
  refine enter_call (codeAny_mono (call w s₀ s₁ mg mb fa o pm cd doc a vs ns G Y ho (fd_plain hd) hcd hmg hobj hints hlen hg) fun r s' hq => ?_)
  obtain ⟨rfl, h2, h3, h4⟩ := hq
  exact ⟨.inl ⟨.bool true, .bool true, [], rfl, fun _ => rfl, .bool true, post_true l _, fun _ => ⟨List.Pairwise.nil, fun _ hm => (nomatch hm)⟩⟩, h2, h3, h4⟩

/-! ### rules over ANY heap (no ledger) from facts about the written part K: the library's own take a ledger (News) for what they write -/
section
variable {prog : Program} {w : World} {A : Around} {E : Value → Shared → Prop} {s : Shared} {K : Frag}

/-! the whole heap as the ledger: makes every rule that writes through a ledger a rule over any heap -/
end
end Att

namespace L2
open PySem PySem.Spec PyProof.Rows

theorem vals_ints : ∀ {vs : List Value} {ns : List Int}, IntsAre vs ns → Vals (ns.map V.int) vs
  | _, _, .nil => .nil
  | _, _, .cons n t h => .cons ⟨t, rfl⟩ (vals_ints h)

/-- nothing is tracked but the script, known to the object (or it is an object of the module) -/
noncomputable def Only (H : Hp) : Prop := ∀ b, H b = none ∨ ∃ o xs, H b = some (.frz o (.lst xs))

/-- THE HEAD: the law's promise, at the heap behind the top. F, the promise of the law's def, may use that base is part of the heap (so K.In base, base.Ns mainGlobals mg stand in Mod) -/
theorem law_call {P : Program} {w : World} {K : PySem.W.Frag} {mg mb : Str → Option Value} {CX : CXT} {k : Nat} {fa a : Addr} {fd : FuncData} {x : Str} {sp : Sp} {s₁ : Shared} {vs : List Value} {ns : List Int}
    (KX : K.In s₁.heap) (hns : s₁.heap.Ns mainGlobals mg) (hb : s₁.heap.Ns builtinsNs mb) (hbb : ∀ x : Str, x ≠ "__name__" → mb x = bootBuiltins x) (hlim : s₁.heap.NoLimit) (hSe : s₁.heap.NoSeer) (hg : s₁.gens = #[])
    (ha : s₁.heap.get? a = some { cls := .type "list", data := .seq vs.toArray }) (hi : IntsAre vs ns) (hl : ns.length ≤ sizeLine) (hr : Room k callerA)
    (F : ∀ base : Heap, K.In base → base.Ns mainGlobals mg → base.NoSeer → FnOk P w K mg base CX k fa fd [x] sp) (hbind : ∀ (s : Shared) (u : Value), BindsTo s fd ⟨[u], []⟩ [(x, u)])
    (hsp : ∀ H : Hp, Only H → SqL K H a (ns.map V.int) → sp [.ref a] H (fun v _ => v = .bl true) fun _ _ _ => False)
    (hCX : ∀ H e s', CX [] H s₁ (fun _ _ _ => False) e s' → False) :
    codeAny (model P w) callerA (.call (.ref fa) ⟨[.ref a], []⟩) (fun r s' => r = .ok (.ret (.bool true)) ∧ OldK s₁.heap s'.heap ∧ s'.os = s₁.os ∧ AllBare s'.gens) s₁ := by
  have rv := vals_ints hi
  have lenV := hi.length
  -- from an abstract heap in which nothing but the script may be tracked
  have core : ∀ H : Hp, Only H → SqL K H a (ns.map V.int) → HOk P w H s₁.heap → (∀ b, H b ≠ none → b = a) → (H a ≠ none → K.lookup a = none) →
      codeAny (model P w) callerA (.call (.ref fa) ⟨[.ref a], []⟩) (fun r s' => r = .ok (.ret (.bool true)) ∧ OldK s₁.heap s'.heap ∧ s'.os = s₁.os ∧ AllBare s'.gens) s₁ := by
    intro H hO hS hok hA hK
    have base_of : ∀ {b : Addr} {o : Obj}, s₁.heap.get? b = some o → H b = none → (hidT s₁.heap H).get? b = some o := fun e n => hidT_get e n
    have noA : ∀ {b : Addr} {o : Obj} {es : Array DictEntry} {ep : Nat}, s₁.heap.get? b = some o → o.data = .dict es ep → H b = none := fun {b o es ep} e d => by
      cases q : H b with
      | none => rfl
      | some u =>
        have e' : b = a := hA b (by rw [q]; simp)
        subst e'
        rw [ha] at e; cases e
        have d' : Data.seq vs.toArray _ = Data.dict es ep := d
        cases d'
    have nsK : ∀ {b : Addr} {m : Str → Option Value}, s₁.heap.Ns b m → (hidT s₁.heap H).Ns b m := fun {b m} ⟨o, es, ep, e, d, r⟩ => ⟨o, es, ep, base_of e (noA e d), d, r⟩
    have hKb : K.In (hidT s₁.heap H) := fun b o e => base_of (KX b o e) (by
      cases q : H b with
      | none => rfl
      | some u =>
        have e' : b = a := hA b (by rw [q]; simp)
        subst e'
        rw [hK (by rw [q]; simp)] at e; cases e)
    have hM : Mod K mg (hidT s₁.heap H) := ⟨hKb, nsK hns, ⟨mb, nsK hb, hbb⟩, let ⟨mc, h1, h2⟩ := hlim; ⟨mc, nsK h1, h2⟩⟩
    have e0 : Env0 P w K mg (hidT s₁.heap H) callerA [] s₁ H := ⟨rfl, hM, fun b o e => of_hidT e, Nat.le_of_eq (hidT_size _ _), trivial, fun b hb => absurd (show b ∈ ([] : List Addr) from hb) (by simp), hok, .of_eq hg⟩
    have hSb : (hidT s₁.heap H).NoSeer := ⟨(let ⟨mc, h1, h2⟩ := hSe.statics; ⟨mc, nsK h1, h2⟩), (let ⟨mc, h1, h2⟩ := hSe.mods; ⟨mc, nsK h1, h2⟩), (let ⟨mc, h1, h2⟩ := hSe.imp; ⟨mc, nsK h1, h2⟩), by
      obtain ⟨m', bm, ob, h1, h2, h3, h4, h5⟩ := hSe.main
      refine ⟨m', bm, ob, nsK h1, h2, base_of h3 ?_, h4, h5⟩
      cases q : H bm with
      | none => rfl
      | some u =>
        have e' : bm = a := hA bm (by rw [q]; simp)
        subst e'
        rw [ha] at h3; cases h3
        exact absurd h4 (by simp)⟩
    refine codeAny_mono ((F _ hKb (nsK hns) hSb).run callerA [] s₁ H ⟨[.ref a], []⟩ [.ref a] [.ref a] _ _ hr e0 (hbind s₁ (.ref a)) (.cons rfl .nil) (hsp H hO hS)) fun r s' h => ?_
    cases r with
    | error e => exact (hCX H e s' h).elim
    | ok fl =>
      cases fl with
      | next => exact False.elim h
      | brk => exact False.elim h
      | cont => exact False.elim h
      | ret u =>
        obtain ⟨v, H', os, bare, un, hok', r', q⟩ := h
        have q' : v = .bl true := q
        subst q'
        obtain rfl : u = Value.bool true := r'
        refine ⟨rfl, OldK.of_keep fun b o e => ?_, os, bare⟩
        cases q : H b with
        | none => exact un.keep b o e q (by intro z; exact absurd (show b ∈ ([] : List Addr) from z) (by simp)) (by simp)
        | some u =>
          rcases hO b with z | ⟨ob, xs, z⟩
          · rw [q] at z; cases z
          · have z2 := un.frzs b ob _ z
            obtain ⟨e1, _⟩ := hok b _ z
            obtain ⟨e2, _⟩ := hok' b _ z2
            rw [e] at e1; cases e1
            exact e2
  cases hk : K.lookup a with
  | some o =>
    -- the script is one of the module's own objects
    have e := KX a o hk
    rw [ha] at e
    cases e
    refine core (fun _ => none) (fun _ => .inl rfl) (.inr ⟨_, vs.toArray, _, hk, rfl, rfl, rfl, by rw [List.size_toArray, lenV]; exact hl, by simpa using rv⟩) (fun b u z => by have z' : (none : Option HO) = some u := z; cases z') (fun b z => absurd rfl z) fun z => absurd rfl z
  | none =>
    refine core (fun b => if b = a then some (.frz { cls := .type "list", data := .seq vs.toArray } (.lst (ns.map V.int))) else none) (fun b => ?_) (.inl (.inr ⟨{ cls := .type "list", data := .seq vs.toArray }, if_pos rfl⟩)) (fun b u z => ?_) (fun b z => ?_) fun _ => hk
    · by_cases hb : b = a
      · exact .inr ⟨_, _, if_pos hb⟩
      · exact .inl (if_neg hb)
    · by_cases hb : b = a
      · have z' := (if_pos hb).symm.trans z
        cases z'
        subst hb
        exact ⟨ha, by rw [List.length_map]; exact hl, vs, _, rv, ha⟩
      · have z' := (if_neg hb).symm.trans z
        cases z'
    · by_cases hb : b = a
      · exact hb
      · exact absurd (if_neg hb) z
end L2

namespace L2
open PySem PySem.Spec PyProof.Rows

noncomputable abbrev KOf {K : PySem.W.Frag} {h : Heap} (_ : K.In h) : PySem.W.Frag := K

/-- the goal that k_head leaves (case hc), from the law's promise. F gives the function object fd (K's own) once, then the promise over every base -/
theorem walk_of {l : PySem.W.OpenLaw} {n k : Nat} {q : Program} {loose : List Str} {XP : (Str → Option Value) → Heap → Prop} {YP : World → Heap → Prop} {d : DefRec} {K : Params → PySem.W.Frag} {CX : World → CXT} {sp : World → Sp} {x : Str}
    (hn : l.most = some n) (hn2 : n ≤ sizeLine) (hdf : d.params.defaults = []) (hr : Room k callerA) (hi : PyProof.Rows.importsNone q = true)
    (hY : ∀ (w : World) (h : Heap), YP w h → (K w.params).In h)
    (F : ∀ (w : World) (mg : Str → Option Value) (fa : Addr) (h : Heap), (K w.params).In h → h.Ns mainGlobals mg → mg d.name = some (.ref fa) →
      ∃ fd : FuncData, (∀ (s : Shared) (u : Value), BindsTo s fd ⟨[u], []⟩ [(x, u)]) ∧
        ∀ base : Heap, (K w.params).In base → base.Ns mainGlobals mg → base.NoSeer → FnOk l.prog w (K w.params) mg base (CX w) k fa fd [x] (sp w))
    (hsp : ∀ (w : World) (H : Hp) (a : Addr) (ns : List Int), ns.length ≤ n → Only H → SqL (K w.params) H a (ns.map V.int) → sp w [.ref a] H (fun v _ => v = .bl true) fun _ _ _ => False)
    (hCX : ∀ (w : World) (H : Hp) (s : Shared) (e : Value) (s' : Shared), CX w [] H s (fun _ _ _ => False) e s' → False) :
    PySem.W.WalkO q loose XP YP l.row.toRowW d [] (fun f vs => PySem.call f vs) := by
  refine Att.attach_call hn hdf fun w s₀ s₁ mg mb fa o pm cd doc a vs ns G Y ho hd hcd hmg hobj hints hlen hg => ?_
  have KX := hY w _ Y
  obtain ⟨fd, hb, hF⟩ := F w mg fa _ KX G.T.g hmg
  exact law_call KX G.T.g G.T.b G.T.builtins G.T.nolimit (G.T.seer hi) hg hobj hints (Nat.le_trans hlen hn2) hr hF hb (fun H hO hS => hsp w H a ns hlen hO hS) fun H e s' => hCX w H s₁ e s'
end L2


/-! SHORT WORDS over the layer: a def of the text, its body, what a loop and a test want. -/
namespace L2
open PySem PySem.Spec PyProof.Rows

/-! ### the text by places -/
noncomputable def defArgs (s : Stmt) : Arguments := match s with
  | .FunctionDef _ a _ _ _ _ _ _ _ _ => a
  | _ => { posonlyargs := [], args := [], vararg := none, kwonlyargs := [], kw_defaults := [], kwarg := none, defaults := [] }
noncomputable def defBody (s : Stmt) : List Stmt := match s with
  | .FunctionDef _ _ b _ _ _ _ _ _ _ => b
  | _ => []
noncomputable def defScope (s : Stmt) : Scope := match s with
  | .FunctionDef _ _ _ _ _ _ sc _ _ _ => sc
  | _ => { kind := .function, names := [], isGenerator := false, isCoroutine := false }

/-! ### no exception leaves a def -/
noncomputable abbrev CX0 : CXT := fun _ _ _ _ _ _ => False
noncomputable abbrev E0 : XK := fun _ _ _ => False
theorem pass0 {X : Cx} : Passes CX0 X E0 := fun _ _ _ _ _ _ _ h => h.elim

/-! ### a def (or method) of the text as it stands behind the top -/
structure Fun (K : PySem.W.Frag) (x qual : Str) (st : Stmt) (f : Addr) (fd : FuncData) : Prop where
  ex : ∃ (oc : Value) (od : Option Addr) (kV doc pm : Value) (an : Option Addr) (cdv ct : Value) (osl : Array (Option Value)),
    fd = PySem.W.fnOf x qual (defArgs st) (defBody st) (defScope st) .none kV doc pm an cdv ct ∧ K.lookup f = some ⟨oc, od, .func fd, osl⟩ ∧ PySem.W.codeIn K cdv qual = true
  kp : PySem.W.keepIn K (.ref f) = true
section
variable {P : Program} {w : World} {K : PySem.W.Frag} {mg : Str → Option Value} {base : Heap}
/-- THE RULE for a def: its body as a term of rules, and the reading of that term -/
theorem Fun.ok {x qual : Str} {st : Stmt} {f : Addr} {fd : FuncData} {N ps : List Str} {k : Nat} {sp : Sp} (F : Fun K x qual st f fd) (S : FnScope N ps (defScope st)) (len : ∀ vs H Q E, sp vs H Q E → vs.length = ps.length)
    (hbody : ∀ (cdv : Value) (A : Around) (outer : List Env) (s : Shared) (H : Hp) (vs : List V) (Q : VK) (E : XK), Room k (A.deeper (envOfC qual (defScope st) s.heap.objs.size f cdv)) → sp vs H Q E →
      ∃ t, PSs (cxOf CX0 P w K mg base N qual (defScope st) f cdv A outer s H E).nox (defBody st) t ∧ t { nx := fun _ H' => Q .non H', rt := Q } (start N vs) H) : FnOk P w K mg base CX0 (k + 1) f fd ps sp := by
  obtain ⟨oc, od, kV, doc, pm, an, cdv, ct, osl, rfl, lk, hcd⟩ := F.ex
  refine fn_of lk hcd S len fun A outer s H vs Q E hr hsp => ?_
  obtain ⟨t, h, q⟩ := hbody cdv A outer s H vs Q E hr hsp
  exact ⟨t, h.nox, q⟩
/-- how its arguments bind (no defaults): h is «fun _ _ _ _ _ _ us hl => match us, hl with | [_, _], _ => rfl», one _ a parameter -/
theorem Fun.binds {x qual : Str} {st : Stmt} {f : Addr} {fd : FuncData} {ps : List Str} (F : Fun K x qual st f fd)
    (h : ∀ (kV doc pm : Value) (an : Option Addr) (cdv ct : Value) (us : List Value), us.length = ps.length → bindArgs (PySem.W.fnOf x qual (defArgs st) (defBody st) (defScope st) .none kV doc pm an cdv ct) ⟨us, []⟩ = pure (ps.zip us)) : Binds K fd ps [] := by
  obtain ⟨oc, od, kV, doc, pm, an, cdv, ct, osl, rfl, lk, hcd⟩ := F.ex
  exact .all (h kV doc pm an cdv ct)
theorem fun_mk {x qual : Str} {st : Stmt} {f : Addr} {oc : Value} {od an : Option Addr} {osl : Array (Option Value)} {kV doc pm cdv ct : Value} (l : K.lookup f = some ⟨oc, od, .func (PySem.W.fnOf x qual (defArgs st) (defBody st) (defScope st) .none kV doc pm an cdv ct), osl⟩)
    (c : PySem.W.codeIn K cdv qual = true) (k : PySem.W.keepIn K (.ref f) = true) : Fun K x qual st f (PySem.W.fnOf x qual (defArgs st) (defBody st) (defScope st) .none kV doc pm an cdv ct) := ⟨⟨oc, od, kV, doc, pm, an, cdv, ct, osl, rfl, l, c⟩, k⟩
end
/-! ### expressions in short: the name that stands in the i-th slot -/
section
variable {X : Cx}
theorem pv (i : Nat) {x : Str} {pos : Pos} (hN : X.N[i]? = some x := by rfl) (hv : Vis X.env.scope x := by first | exact Or.inl rfl | exact Or.inr (Or.inl rfl) | exact Or.inr (Or.inr rfl)) (hd : (x == ("__debug__" : Str)) = false := by decide)
    (hcd : (x == ("__classdict__" : Str)) = false := by decide) : PE X (.Name x pos) (tVar i) := pe_var hN hv hd hcd
end

/-! ### tests -/
theorem iteF {A B : Prop} (h : B) : if false = true then A else B := by
  rw [if_neg Bool.false_ne_true]
  exact h
theorem iteT {A B : Prop} (h : A) : if true = true then A else B := by
  rw [if_pos rfl]
  exact h
theorem ite2 {c A B : Prop} [Decidable c] (h1 : c → A) (h2 : ¬ c → B) : if c then A else B := by
  by_cases h : c
  · rw [if_pos h]
    exact h1 h
  · rw [if_neg h]
    exact h2 h
/-! ### heaps -/
/-- all that was tracked is as it was -/
noncomputable def Same (H H' : Hp) : Prop := ∀ b o, H b = some o → H' b = some o
theorem Same.refl (H : Hp) : Same H H := fun _ _ h => h
theorem Same.trans {H H1 H2 : Hp} (a : Same H H1) (b : Same H1 H2) : Same H H2 := fun c o h => b c o (a c o h)
end L2

namespace Nm
/-- prime, by trial -/
noncomputable def primeB (n : Nat) : Bool := decide (1 < n) && (List.range n).all fun d => decide (d < 2) || decide (n % d ≠ 0)
/-- a kind: nought, or a prime below 99 -/
structure Pr (k : Int) : Prop where
  lo : 1 < k
  hi : k < 99
  pr : primeB k.toNat = true
noncomputable def KindOk (k : Int) : Prop := k = 0 ∨ Pr k
theorem KindOk.lt {k : Int} (h : KindOk k) : 0 ≤ k ∧ k < 99 := by
  rcases h with h | h
  · (first | lia | omega)
  · have := h.lo; have := h.hi; (first | lia | omega)
theorem prime_cop_nat : ∀ k < 99, primeB k = true → ∀ r < k, 0 < r → Nat.gcd k r = 1 := by decide +kernel
theorem Pr.cop {k r : Int} (h : Pr k) (h0 : 0 < r) (h1 : r < k) : Int.gcd k r = 1 := by
  have := prime_cop_nat k.toNat (by have := h.hi; (first | lia | omega)) h.pr r.toNat (by (first | lia | omega)) (by (first | lia | omega))
  have e1 : k.natAbs = k.toNat := by (first | lia | omega)
  have e2 : r.natAbs = r.toNat := by (first | lia | omega)
  rw [Int.gcd_eq_natAbs_gcd_natAbs, e1, e2]; exact this
theorem prime_end_nat' : ∀ n < 99, ∀ b < 11, n < b * b → ((List.range b).all fun d => decide (d < 2) || decide (n % d ≠ 0)) = true → decide (1 < n) = primeB n := by decide +kernel
theorem prime_end_nat (n : Nat) (hn : n < 99) (b : Nat) (hb : b < 11) (h : n < b * b) (no : ∀ d < b, 2 ≤ d → n % d ≠ 0) : decide (1 < n) = primeB n := by
  refine prime_end_nat' n hn b hb h ?_
  rw [List.all_eq_true]
  intro d hd
  rw [List.mem_range] at hd
  by_cases z : d < 2
  · simp [z]
  · have := no d hd (by (first | lia | omega))
    simp [this]
theorem prime_stop_nat : ∀ n < 99, ∀ b < 11, 2 ≤ b → b * b ≤ n → n % b = 0 → primeB n = false := by decide +kernel
/-- the loop of is_prime: no divisor below by -/
structure PrInv (n b : Int) : Prop where
  lo : 2 ≤ b
  hi : b ≤ 10
  no : ∀ d : Nat, d < b.toNat → 2 ≤ d → n.toNat % d ≠ 0
theorem pr_start (n : Int) : PrInv n 2 := ⟨by (first | lia | omega), by (first | lia | omega), fun d h1 h2 => by (first | lia | omega)⟩
theorem toNat_mod {n b : Int} (hn : 0 ≤ n) (hb : 0 ≤ b) : (n % b).toNat = n.toNat % b.toNat := by
  obtain ⟨m, rfl⟩ := Int.eq_ofNat_of_zero_le hn
  obtain ⟨c, rfl⟩ := Int.eq_ofNat_of_zero_le hb
  rw [← Int.natCast_emod, Int.toNat_natCast, Int.toNat_natCast, Int.toNat_natCast]
theorem sq_toNat {b : Int} (hb : 0 ≤ b) : (b * b).toNat = b.toNat * b.toNat := by
  obtain ⟨m, rfl⟩ := Int.eq_ofNat_of_zero_le hb
  rw [← Int.natCast_mul, Int.toNat_natCast, Int.toNat_natCast]
theorem sq_mono {a b : Int} (ha : 0 ≤ a) (h : a ≤ b) : a * a ≤ b * b := Int.mul_le_mul h h ha (by (first | lia | omega))
theorem pr_turn {n b : Int} (h : PrInv n b) (hn : 0 ≤ n) (h99 : n < 99) (hs : b * b ≤ n) (hm : n % b ≠ 0) : PrInv n (b + 1) := by
  have h1 := h.lo
  have h2 := h.hi
  have hb : b ≤ 9 := by
    rcases Int.lt_or_le 9 b with h' | h'
    · have := sq_mono (by (first | lia | omega)) (show (10 : Int) ≤ b by (first | lia | omega)); (first | lia | omega)
    · exact h'
  refine ⟨by (first | lia | omega), by (first | lia | omega), fun d hd h2 => ?_⟩
  by_cases e : d = b.toNat
  · subst e
    intro z
    have := toNat_mod hn (show 0 ≤ b by (first | lia | omega))
    rw [z] at this
    have := Int.emod_nonneg n (show b ≠ 0 by (first | lia | omega))
    (first | lia | omega)
  · exact h.no d (by (first | lia | omega)) h2
theorem pr_stop {n b : Int} (h : PrInv n b) (hn : 0 ≤ n) (h99 : n < 99) (hs : b * b ≤ n) (hm : n % b = 0) : primeB n.toNat = false := by
  have h1 := h.lo
  have h2 := h.hi
  refine prime_stop_nat n.toNat (by (first | lia | omega)) b.toNat (by (first | lia | omega)) (by (first | lia | omega)) ?_ ?_
  · rw [← sq_toNat (by (first | lia | omega))]; (first | lia | omega)
  · rw [← toNat_mod hn (by (first | lia | omega)), hm]; rfl
theorem pr_end {n b : Int} (h : PrInv n b) (hn : 0 ≤ n) (h99 : n < 99) (hs : n < b * b) : decide (1 < n) = primeB n.toNat := by
  have h1 := h.lo
  have h2 := h.hi
  rw [← prime_end_nat n.toNat (by (first | lia | omega)) b.toNat (by (first | lia | omega)) (by rw [← sq_toNat (by (first | lia | omega))]; (first | lia | omega)) h.no]
  by_cases z : 1 < n
  · rw [decide_eq_true z, decide_eq_true (by (first | lia | omega))]
  · rw [decide_eq_false z, decide_eq_false (by (first | lia | omega))]
/-- Euclid -/
theorem gcd_fmod (a b : Int) : Int.gcd b (a.fmod b) = Int.gcd a b := by
  rw [Int.fmod_def, Int.gcd_sub_mul_left_right, Int.gcd_comm]
theorem fmod_small (a : Int) {b : Int} (hb : b ≠ 0) : (a.fmod b).natAbs < b.natAbs := by
  rcases Int.lt_or_le 0 b with h | h
  · have h1 := Int.fmod_nonneg_of_pos a h
    have h2 := Int.fmod_lt_of_pos a h
    (first | lia | omega)
  · have hb' : 0 < -b := by (first | lia | omega)
    have h1 := Int.fmod_nonneg_of_pos (-a) hb'
    have h2 := Int.fmod_lt_of_pos (-a) hb'
    have e : (-a).fmod (-b) = -(a.fmod b) := by
      rw [Int.neg_fmod_neg]
    (first | lia | omega)
end Nm

namespace Nm
/-- the loop of one_over -/
structure OvInv (p r l g ml mg : Int) : Prop where
  l0 : 0 ≤ l
  l1 : l ≤ 98
  g0 : 0 ≤ g
  g1 : g ≤ 98
  cop : Int.gcd l g = 1
  left : p ∣ l - ml * r
  right : p ∣ g - mg * r
theorem ov_start {p r : Int} (h : Pr p) (h0 : 0 < r) (h1 : r < p) : OvInv p r p r 0 1 := by
  have := h.lo; have := h.hi
  refine ⟨by (first | lia | omega), by (first | lia | omega), by (first | lia | omega), by (first | lia | omega), h.cop h0 h1, ?_, ?_⟩
  · rw [Int.zero_mul, Int.sub_zero]; exact Int.dvd_refl p
  · rw [Int.one_mul, Int.sub_self]; exact Int.dvd_zero p
theorem ov_turn {p r l g ml mg : Int} (h : OvInv p r l g ml mg) (hg : g ≠ 0) : OvInv p r g (l - l / g * g) mg (ml - l / g * mg) := by
  have g0 := h.g0
  have g1 := h.g1
  have e : l - l / g * g = l % g := by
    have := Int.emod_add_mul_ediv l g
    rw [Int.mul_comm (l / g) g]; (first | lia | omega)
  have m0 := Int.emod_nonneg l hg
  have m1 := Int.emod_lt_of_pos l (show 0 < g by (first | lia | omega))
  refine ⟨g0, g1, by (first | lia | omega), by (first | lia | omega), ?_, h.right, ?_⟩
  · rw [Int.gcd_sub_mul_right_right, Int.gcd_comm]; exact h.cop
  · have e2 : l - l / g * g - (ml - l / g * mg) * r = (l - ml * r) - l / g * (g - mg * r) := by grind
    rw [e2]
    exact Int.dvd_sub h.left (Int.dvd_mul_of_dvd_right h.right)
theorem ov_meas {l g : Int} (g0 : 0 ≤ g) (hg : g ≠ 0) : (l - l / g * g).toNat < g.toNat := by
  have e : l - l / g * g = l % g := by
    have := Int.emod_add_mul_ediv l g
    rw [Int.mul_comm (l / g) g]; (first | lia | omega)
  have m0 := Int.emod_nonneg l hg
  have m1 := Int.emod_lt_of_pos l (show 0 < g by (first | lia | omega))
  (first | lia | omega)
theorem ov_end {p r l ml mg : Int} (h : OvInv p r l 0 ml mg) (hp : 0 < p) : p ∣ ml % p * r - 1 := by
  have c := h.cop
  rw [Int.gcd_zero] at c
  have e : l = 1 := by have := h.l0; (first | lia | omega)
  have d := h.left
  rw [e] at d
  have e1 : ml % p * r - 1 = -(1 - ml * r) - p * (ml / p) * r := by
    have := Int.emod_add_mul_ediv ml p
    grind
  rw [e1]
  exact Int.dvd_sub (Int.dvd_neg.mpr d) (Int.dvd_mul_of_dvd_left (Int.dvd_mul_right p _))
/-- fraction(top, bottom): the sign belongs to the top alone -/
noncomputable def sg (t b : Int) : Int := if b < 0 then -((Int.gcd t b : Nat) : Int) else ((Int.gcd t b : Nat) : Int)
theorem sg_ne {t b : Int} (hb : b ≠ 0) : sg t b ≠ 0 := by
  have := Int.gcd_pos_of_ne_zero_right t hb
  unfold sg; split <;> (first | lia | omega)
theorem sg_abs (t b : Int) : (sg t b).natAbs = Int.gcd t b := by
  unfold sg; split <;> (first | lia | omega)
theorem sg_dvd_t (t b : Int) : sg t b ∣ t := by
  unfold sg; split
  · exact Int.neg_dvd.mpr (Int.gcd_dvd_left t b)
  · exact Int.gcd_dvd_left t b
theorem sg_dvd_b (t b : Int) : sg t b ∣ b := by
  unfold sg; split
  · exact Int.neg_dvd.mpr (Int.gcd_dvd_right t b)
  · exact Int.gcd_dvd_right t b
theorem rat_eq_of {q : Rat} {t b : Int} (hb : b ≠ 0) (h : q.num * b = t * q.den) : Rat.divInt t b = q := by
  rw [← Rat.num_divInt_den q]
  have hd : (q.den : Int) ≠ 0 := by have := q.den_nz; (first | lia | omega)
  rw [Rat.divInt_eq_divInt_iff hb hd]
  (first | lia | omega)
theorem frac_num {t b : Int} (hb : b ≠ 0) : t.fdiv (sg t b) = (Rat.divInt t b).num ∧ b.fdiv (sg t b) = ((Rat.divInt t b).den : Nat) := by
  have hs := sg_ne (t := t) hb
  rw [Int.fdiv_eq_ediv_of_dvd (sg_dvd_t t b), Int.fdiv_eq_ediv_of_dvd (sg_dvd_b t b)]
  have et := Int.ediv_mul_cancel (sg_dvd_t t b)
  have eb := Int.ediv_mul_cancel (sg_dvd_b t b)
  have hpos : 0 < b / sg t b := by
    have hne : b / sg t b ≠ 0 := fun z => by rw [z, Int.zero_mul] at eb; exact hb eb.symm
    have hg := Int.gcd_pos_of_ne_zero_right t hb
    rcases Int.lt_or_le b 0 with h | h
    · have e : sg t b = -((Int.gcd t b : Nat) : Int) := by unfold sg; rw [if_pos h]
      have : 0 ≤ b / sg t b := Int.ediv_nonneg_of_nonpos_of_nonpos (by (first | lia | omega)) (by (first | lia | omega))
      (first | lia | omega)
    · have e : sg t b = ((Int.gcd t b : Nat) : Int) := by unfold sg; rw [if_neg (by (first | lia | omega))]
      have : 0 ≤ b / sg t b := Int.ediv_nonneg (by (first | lia | omega)) (by (first | lia | omega))
      (first | lia | omega)
  have hcop : Int.gcd (t / sg t b) (b / sg t b) = 1 := by
    rw [Int.gcd_ediv (sg_dvd_t t b) (sg_dvd_b t b), sg_abs]
    exact Nat.div_self (Int.gcd_pos_of_ne_zero_right t hb)
  let q : Rat := ⟨t / sg t b, (b / sg t b).toNat, by (first | lia | omega), by
    show Nat.gcd (t / sg t b).natAbs (b / sg t b).toNat = 1
    have : (b / sg t b).toNat = (b / sg t b).natAbs := by (first | lia | omega)
    rw [this]; exact hcop⟩
  have hq : Rat.divInt t b = q := rat_eq_of hb (by
    show t / sg t b * b = t * (((b / sg t b).toNat : Nat) : Int)
    have e : (((b / sg t b).toNat : Nat) : Int) = b / sg t b := by (first | lia | omega)
    rw [e]
    have : t / sg t b * b = t / sg t b * (b / sg t b * sg t b) := by rw [eb]
    have : t * (b / sg t b) = t / sg t b * sg t b * (b / sg t b) := by rw [et]
    grind)
  rw [hq]
  refine ⟨rfl, ?_⟩
  show b / sg t b = (((b / sg t b).toNat : Nat) : Int)
  (first | lia | omega)
theorem rat_sub (x y : Rat) : Rat.divInt (x.num * y.den - y.num * x.den) (x.den * y.den) = x - y := by
  rw [Rat.sub_def', ← Rat.divInt_ofNat]; simp
theorem rat_mul (x y : Rat) : Rat.divInt (x.num * y.num) (x.den * y.den) = x * y := by
  rw [Rat.mul_def', ← Rat.divInt_ofNat]; simp
theorem rat_div (x y : Rat) : Rat.divInt (x.num * y.den) (x.den * y.num) = x / y := by
  rw [Rat.div_def, Rat.inv_def, ← Rat.num_divInt_den x, Rat.divInt_mul_divInt]
  simp [Rat.num_divInt_den]
end Nm

namespace Nm
/-- a number: a fraction, or a rest -/
inductive Nb where
  | q (r : Rat)
  | z (i : Int)
  deriving DecidableEq
/-- a number of the kind -/
noncomputable def Nb.ok (k : Int) : Nb → Prop
  | .q _ => k = 0
  | .z i => k ≠ 0 ∧ 0 ≤ i ∧ i < k
/-- x over y by rests -/
noncomputable def zinv (k b : Int) : Int := (((List.range k.toNat).find? fun (x : Nat) => decide (k ∣ (x : Int) * b - 1)).getD 0 : Nat)
theorem inv_unique {k b x y : Int} (hx0 : 0 ≤ x) (hx : x < k) (hy0 : 0 ≤ y) (hy : y < k) (h1 : k ∣ x * b - 1) (h2 : k ∣ y * b - 1) : x = y := by
  have h : k ∣ x - y := by
    have e : x - y = y * (x * b - 1) - x * (y * b - 1) := by grind
    rw [e]
    exact Int.dvd_sub (Int.dvd_mul_of_dvd_right h1) (Int.dvd_mul_of_dvd_right h2)
  obtain ⟨c, hc⟩ := h
  rcases Int.lt_or_le c 0 with h | h
  · have : k * c ≤ k * (-1) := Int.mul_le_mul_of_nonneg_left (by (first | lia | omega)) (by (first | lia | omega))
    (first | lia | omega)
  · rcases Int.lt_or_le 0 c with h' | h'
    · have : k * 1 ≤ k * c := Int.mul_le_mul_of_nonneg_left (by (first | lia | omega)) (by (first | lia | omega))
      (first | lia | omega)
    · have : c = 0 := by (first | lia | omega)
      rw [this, Int.mul_zero] at hc
      (first | lia | omega)
theorem zinv_of {k b x : Int} (h0 : 0 ≤ x) (h1 : x < k) (h : k ∣ x * b - 1) : zinv k b = x := by
  unfold zinv
  cases e : (List.range k.toNat).find? fun (x : Nat) => decide (k ∣ (x : Int) * b - 1) with
  | none =>
    rw [List.find?_eq_none] at e
    have := e x.toNat (by rw [List.mem_range]; (first | lia | omega))
    rw [show ((x.toNat : Nat) : Int) = x by (first | lia | omega)] at this
    simp [h] at this
  | some y =>
    have hm := List.mem_of_find?_eq_some e
    rw [List.mem_range] at hm
    have hp := List.find?_some e
    have hp' : k ∣ (y : Int) * b - 1 := by simpa using hp
    show ((y : Nat) : Int) = x
    exact inv_unique (Int.natCast_nonneg y) (by (first | lia | omega)) h0 h1 hp' h
/-- every rest but nought has one that undoes it -/
theorem inv_nat : ∀ k < 99, primeB k = true → ((List.range k).all fun r => decide (r = 0) || ((List.range k).any fun x => decide ((x * r) % k = 1 % k))) = true := by decide +kernel
theorem inv_exists {k b : Int} (h : Pr k) (h0 : 0 < b) (h1 : b < k) : ∃ x, 0 ≤ x ∧ x < k ∧ k ∣ x * b - 1 := by
  have := inv_nat k.toNat (by have := h.hi; (first | lia | omega)) h.pr
  rw [List.all_eq_true] at this
  have hb := this b.toNat (by rw [List.mem_range]; (first | lia | omega))
  rw [Bool.or_eq_true] at hb
  rcases hb with hb | hb
  · have : b.toNat = 0 := by simpa using hb
    (first | lia | omega)
  · rw [List.any_eq_true] at hb
    obtain ⟨x, hx, hp⟩ := hb
    rw [List.mem_range] at hx
    have hp' : (x * b.toNat) % k.toNat = 1 % k.toNat := by simpa using hp
    refine ⟨(x : Int), Int.natCast_nonneg x, by (first | lia | omega), ?_⟩
    have e1 : ((x * b.toNat : Nat) : Int) % k = (1 : Int) % k := by
      have e2 : k = ((k.toNat : Nat) : Int) := by (first | lia | omega)
      rw [e2]
      exact_mod_cast congrArg (fun n : Nat => (n : Int)) hp'
    have e3 : ((x * b.toNat : Nat) : Int) = (x : Int) * b := by
      rw [Int.natCast_mul]; congr 1; (first | lia | omega)
    rw [e3] at e1
    exact Int.dvd_of_emod_eq_zero (Int.emod_eq_emod_iff_emod_sub_eq_zero.mp e1)
noncomputable def nnum (k w : Int) : Nb := if k = 0 then .q (w : Rat) else .z (w.fmod k)
noncomputable def nadd (k : Int) : Nb → Nb → Nb
  | .q a, .q b => .q (a + b)
  | .z a, .z b => .z ((a + b).fmod k)
  | _, _ => .z 0
noncomputable def nsub (k : Int) : Nb → Nb → Nb
  | .q a, .q b => .q (a - b)
  | .z a, .z b => .z ((a - b).fmod k)
  | _, _ => .z 0
noncomputable def nmul (k : Int) : Nb → Nb → Nb
  | .q a, .q b => .q (a * b)
  | .z a, .z b => .z ((a * b).fmod k)
  | _, _ => .z 0
noncomputable def ndiv (k : Int) : Nb → Nb → Nb
  | .q a, .q b => .q (a / b)
  | .z a, .z b => .z ((a * zinv k b).fmod k)
  | _, _ => .z 0
theorem fmod_sub_dvd (k a : Int) : k ∣ a.fmod k - a := by
  rw [Int.fmod_def]
  refine ⟨-(a.fdiv k), ?_⟩
  grind
theorem den_ne (r : Rat) : (r.den : Int) ≠ 0 := by have := r.den_nz; (first | lia | omega)
theorem den_pos (r : Rat) : 0 < (r.den : Int) := by have := r.den_pos; (first | lia | omega)
theorem num_ne {r : Rat} (h : r ≠ 0) : r.num ≠ 0 := fun z => h (Rat.num_eq_zero.mp z)
end Nm

namespace L2
open PySem PySem.Spec PyProof.Rows
/-! ### built-ins by their names -/
theorem bb_len : bootBuiltins "len" = some (.builtin "len") := by decide +kernel
theorem bb_abs : bootBuiltins "abs" = some (.builtin "abs") := by decide +kernel
theorem bb_isinstance : bootBuiltins "isinstance" = some (.builtin "isinstance") := by decide +kernel
theorem bb_sum : bootBuiltins "sum" = some (.builtin "sum") := by decide +kernel
theorem bb_int : bootBuiltins "int" = some (.type "int") := by decide +kernel
theorem bb_bool : bootBuiltins "bool" = some (.type "bool") := by decide +kernel
theorem bb_list : bootBuiltins "list" = some (.type "list") := by decide +kernel
theorem bb_tuple : bootBuiltins "tuple" = some (.type "tuple") := by decide +kernel
theorem bb_zip : bootBuiltins "zip" = some (.type "zip") := by decide +kernel
/-! ### sizes of ints -/
noncomputable def Sm (n : Nat) (x : Int) : Prop := x.natAbs < 2 ^ n
theorem Sm.bits {n : Nat} {x : Int} (h : Sm n x) : Builtin.Int.intBits x ≤ n := by
  unfold Builtin.Int.intBits
  split
  · exact Nat.zero_le _
  · rename_i h0
    have h0' : x.natAbs ≠ 0 := by
      intro z
      have e : x = 0 := by (first | lia | omega)
      rw [e] at h0
      exact h0 rfl
    have := (Nat.log2_lt h0').mpr h
    (first | lia | omega)
theorem Sm.mulOk {m n : Nat} {a b : Int} (ha : Sm m a) (hb : Sm n b) (h : m + n ≤ 134217728) : IntMulOk a b := IntMulOk.of_le ha.bits hb.bits h
theorem Sm.mono {m n : Nat} {x : Int} (h : Sm m x) (hmn : m ≤ n) : Sm n x := Nat.lt_of_lt_of_le h (Nat.pow_le_pow_right (by decide) hmn)
theorem Sm.mul {m n : Nat} {a b : Int} (ha : Sm m a) (hb : Sm n b) : Sm (m + n) (a * b) := by
  unfold Sm
  rw [Int.natAbs_mul, Nat.pow_add]
  exact Nat.mul_lt_mul'' ha hb
theorem Sm.add {n : Nat} {a b : Int} (ha : Sm n a) (hb : Sm n b) : Sm (n + 1) (a + b) := by
  unfold Sm at *
  rw [Nat.pow_succ]
  have := Int.natAbs_add_le a b
  (first | lia | omega)
theorem Sm.sub {n : Nat} {a b : Int} (ha : Sm n a) (hb : Sm n b) : Sm (n + 1) (a - b) := by
  unfold Sm at *
  rw [Nat.pow_succ]
  have := Int.natAbs_sub_le a b
  (first | lia | omega)
theorem Sm.le {n : Nat} {a b : Int} (ha : Sm n a) (h : b.natAbs ≤ a.natAbs) : Sm n b := Nat.lt_of_le_of_lt h ha

section
variable {X : Cx} {a b c : Expr} {ta tb tc : TE} {pos : Pos}
theorem op_mulB : OpR X (binaryOp .Mult) (rI IntMulOk fun i j => .int (i * j)) := opI fun _ _ _ _ _ _ _ hc q => mul_int q hc
/-! ### isinstance -/
noncomputable def rIsi (K : PySem.W.Frag) : List V → Hp → VK → Prop := fun xs H Q => ∃ x n t b, xs = [x, .ty n] ∧ TyOf K H x t ∧ PySem.W.kitOne K t (.type n) = some b ∧ Q (.bl b) H
theorem call_isi : CallR X (.builtin "isinstance") (rIsi X.K) := by
  intro pins s σ H xs us Q I r h
  obtain ⟨x, n, t, b, rfl, ty, e, q⟩ := h
  obtain ⟨u, w', rfl, r1, r2⟩ := Vals.two r
  cases r2
  exact isinst_ok I r1 ty e fun tk => ⟨.bl b, H, I.tok tk, rfl, q⟩
theorem pe_ty {x : Str} {n : String} (hg : Gl X x) (hm : X.mg x = none) (hv : bootBuiltins x = some (.type n)) (hn : x ≠ "__name__" := by decide) (hd : (x == ("__debug__" : Str)) = false := by decide) : PE X (.Name x pos) (tC (.ty n)) :=
  pe_bltn hg hm hv rfl hn hd
end

/-! ### defs by their promises -/
structure Kn (P : Program) (w : World) (K : PySem.W.Frag) (mg : Str → Option Value) (base : Heap) (x : Str) (k : Nat) (ps : List Str) (sp : Sp) : Prop where
  ex : ∃ (f : Addr) (fd : FuncData), FnOk P w K mg base CX0 k f fd ps sp ∧ mg x = some (.ref f) ∧ PySem.W.keepIn K (.ref f) = true ∧ Binds K fd ps []
theorem pe_kn {X : Cx} {x : Str} {k : Nat} {ps : List Str} {sp : Sp} {p pos : Pos} {e : Expr} {es : List Expr} {t : TA} (D : Kn X.prog X.w X.K X.mg X.base x k ps sp) (hr : Room k X.A) (hg : Gl X x) (ha : PA X (e :: es) t)
    (hdb : (x == ("__debug__" : Str)) = false := by decide) (he : starEach (e :: es) X.env = (false, eval e X.env) :: starEach es X.env := by rfl) (hpl : (backTo pos (starEach es X.env)).any (·.1) = false := by rfl) :
    PE X (.Call (.Name x p) (e :: es) [] pos) (tCall sp [] E0 t) := by
  obtain ⟨f, fd, F, hm, hk, hb⟩ := D.ex
  exact pe_call F hr hg hm hk hb .nil pass0 ha hdb he hpl
structure Df (K : PySem.W.Frag) (mg : Str → Option Value) (x : Str) (ps : List Str) (st : Stmt) : Prop where
  ex : ∃ (f : Addr) (fd : FuncData), Fun K x x st f fd ∧ mg x = some (.ref f) ∧ Binds K fd ps []
section
variable {P : Program} {w : World} {K : PySem.W.Frag} {mg : Str → Option Value} {base : Heap}
theorem Df.kn {x : Str} {st : Stmt} {N ps : List Str} {k : Nat} {sp : Sp} (D : Df K mg x ps st) (S : FnScope N ps (defScope st)) (len : ∀ vs H Q E, sp vs H Q E → vs.length = ps.length)
    (hbody : ∀ (f : Addr) (cdv : Value) (A : Around) (outer : List Env) (s : Shared) (H : Hp) (vs : List V) (Q : VK) (E : XK), Room k (A.deeper (envOfC x (defScope st) s.heap.objs.size f cdv)) → sp vs H Q E →
      ∃ t, PSs (cxOf CX0 P w K mg base N x (defScope st) f cdv A outer s H E).nox (defBody st) t ∧ t { nx := fun _ H' => Q .non H', rt := Q } (start N vs) H) : Kn P w K mg base x (k + 1) ps sp := by
  obtain ⟨f, fd, F, hm, hb⟩ := D.ex
  exact ⟨f, fd, F.ok S len (fun cdv A outer s H vs Q E hr h => hbody f cdv A outer s H vs Q E hr h), hm, F.kp, hb⟩
theorem df_mk {x : Str} {ps : List Str} {st : Stmt} {h : Heap} {f : Addr} {oc : Value} {od an : Option Addr} {osl : Array (Option Value)} {kV doc pm cdv ct : Value} (X : K.In h) (G : h.Ns mainGlobals mg)
    (a : PySem.W.nsIn K mainGlobals x = some (some (.ref f)))
    (l : K.lookup f = some ⟨oc, od, .func (PySem.W.fnOf x x (defArgs st) (defBody st) (defScope st) .none kV doc pm an cdv ct), osl⟩)
    (c : PySem.W.codeIn K cdv x = true) (k : PySem.W.keepIn K (.ref f) = true)
    (hb : ∀ (kV doc pm : Value) (an : Option Addr) (cdv ct : Value) (us : List Value), us.length = ps.length → bindArgs (PySem.W.fnOf x x (defArgs st) (defBody st) (defScope st) .none kV doc pm an cdv ct) ⟨us, []⟩ = pure (ps.zip us)) : Df K mg x ps st := by
  have F := fun_mk (st := st) l c k
  exact ⟨f, _, F, PySem.W.mg_of X G a, F.binds hb⟩
end
theorem bind1 {fd : FuncData} {ps : List Str} (h : ∀ a0, bindArgs fd ⟨[a0], []⟩ = pure (ps.zip [a0])) (us : List Value) (e : us.length = 1) : bindArgs fd ⟨us, []⟩ = pure (ps.zip us) := by
  match us, e with | [a0], _ => exact h a0
theorem bind2 {fd : FuncData} {ps : List Str} (h : ∀ a0 a1, bindArgs fd ⟨[a0, a1], []⟩ = pure (ps.zip [a0, a1])) (us : List Value) (e : us.length = 2) : bindArgs fd ⟨us, []⟩ = pure (ps.zip us) := by
  match us, e with | [a0, a1], _ => exact h a0 a1
theorem bind3 {fd : FuncData} {ps : List Str} (h : ∀ a0 a1 a2, bindArgs fd ⟨[a0, a1, a2], []⟩ = pure (ps.zip [a0, a1, a2])) (us : List Value) (e : us.length = 3) : bindArgs fd ⟨us, []⟩ = pure (ps.zip us) := by
  match us, e with | [a0, a1, a2], _ => exact h a0 a1 a2
theorem bind4 {fd : FuncData} {ps : List Str} (h : ∀ a0 a1 a2 a3, bindArgs fd ⟨[a0, a1, a2, a3], []⟩ = pure (ps.zip [a0, a1, a2, a3])) (us : List Value) (e : us.length = 4) : bindArgs fd ⟨us, []⟩ = pure (ps.zip us) := by
  match us, e with | [a0, a1, a2, a3], _ => exact h a0 a1 a2 a3
/-- what law(script) promises: for a list of at most 63 ints the answer is True -/
noncomputable def spLaw (K : PySem.W.Frag) : Sp := fun vs H Q _ => ∃ (a : Addr) (ns : List Int), vs = [.ref a] ∧ SqL K H a (ns.map V.int) ∧ ns.length ≤ 63 ∧ ∀ H', Q (.bl true) H'
theorem same_new {H : Hp} {p : Addr} (h : H p = none) (o : HO) : Same H (upd H p o) := fun b u q => by rw [upd_ne (ne_of_none q h)]; exact q
theorem law_mk {K : PySem.W.Frag} {mg : Str → Option Value} {st : Stmt} {h : Heap} {f fa : Addr} {oc : Value} {od an : Option Addr} {osl : Array (Option Value)} {kV doc pm cdv ct : Value} (X : K.In h) (G : h.Ns mainGlobals mg) (hmg : mg "law" = some (.ref fa))
    (a : PySem.W.nsIn K mainGlobals "law" = some (some (.ref f)))
    (l : K.lookup f = some ⟨oc, od, .func (PySem.W.fnOf "law" "law" (defArgs st) (defBody st) (defScope st) .none kV doc pm an cdv ct), osl⟩)
    (c : PySem.W.codeIn K cdv "law" = true) (k : PySem.W.keepIn K (.ref f) = true)
    (hb : ∀ (kV doc pm : Value) (an : Option Addr) (cdv ct : Value) (v : Value), bindArgs (PySem.W.fnOf "law" "law" (defArgs st) (defBody st) (defScope st) .none kV doc pm an cdv ct) ⟨[v], []⟩ = pure [(("_law_script" : Str), v)]) :
    ∃ fd : FuncData, Fun K "law" "law" st fa fd ∧ ∀ (s : Shared) (v : Value), BindsTo s fd ⟨[v], []⟩ [("_law_script", v)] := by
  have e := hmg.symm.trans (PySem.W.mg_of X G a)
  cases e
  exact ⟨_, fun_mk (st := st) l c k, fun s v => .of_eq (hb _ _ _ _ _ _ v)⟩
theorem walk {l : PySem.W.OpenLaw} {q : Program} {loose : List Str} {XP : (Str → Option Value) → Heap → Prop} {YP : World → Heap → Prop} {d : DefRec} {K : Params → PySem.W.Frag} (k : Nat) (hn : l.most = some 63) (hdf : d.params.defaults = []) (hr : Room k callerA) (hi : PyProof.Rows.importsNone q = true)
    (hY : ∀ (w : World) (h : Heap), YP w h → (K w.params).In h)
    (F : ∀ (w : World) (mg : Str → Option Value) (fa : Addr) (h : Heap), (K w.params).In h → h.Ns mainGlobals mg → mg d.name = some (.ref fa) →
      ∃ fd : FuncData, (∀ (s : Shared) (u : Value), BindsTo s fd ⟨[u], []⟩ [("_law_script", u)]) ∧ ∀ base : Heap, (K w.params).In base → base.Ns mainGlobals mg → base.NoSeer → FnOk l.prog w (K w.params) mg base CX0 k fa fd ["_law_script"] (spLaw (K w.params))) :
    PySem.W.WalkO q loose XP YP l.row.toRowW d [] (fun f vs => PySem.call f vs) :=
  L2.walk_of (n := 63) (k := k) (x := "_law_script") (CX := fun _ => CX0) (sp := fun w => spLaw (K w.params)) hn (by decide) hdf hr hi hY F (fun _ _ a ns hl _ hS => ⟨a, ns, rfl, hS, hl, fun _ => rfl⟩) fun _ _ _ _ _ z => z
end L2

namespace L2
open PySem PySem.Spec PyProof.Rows
/-! ### list comprehensions: one for, none or one test -/
noncomputable def closOf (cells : List (Str × Addr)) : List (Str × NameKind) → List (Str × Addr) → List (Str × Addr)
  | [], acc => acc
  | (n, k) :: r, acc => if (k == NameKind.free) = true then closOf cells r ((n, (cells.lookup n).getD 0) :: acc) else closOf cells r acc
theorem closFor_go {env : Env} (f : Str × NameKind → List (Str × Addr) → Sem (ForInStep (List (Str × Addr))))
    (hf : ∀ name kind cs, f (name, kind) cs = if (kind == NameKind.free) = true then (do let a ← cellOf env name; pure (.yield ((name, a) :: cs))) else pure (.yield cs)) :
    ∀ (l : List (Str × NameKind)) (acc : List (Str × Addr)), (∀ x ∈ l, x.2 = .free → ∃ c, env.cells.lookup x.1 = some c) → (forIn l acc f : Sem _) = pure (closOf env.cells l acc)
  | [], acc, _ => by rw [List.forIn_nil]; rfl
  | (n, k) :: r, acc, h => by
    rw [List.forIn_cons, hf]
    have hr : ∀ x ∈ r, x.2 = .free → ∃ c, env.cells.lookup x.1 = some c := fun x hx => h x (List.mem_cons_of_mem _ hx)
    by_cases hk : (k == NameKind.free) = true
    · obtain ⟨c, hc⟩ := h (n, k) List.mem_cons_self (by simpa using hk)
      rw [if_pos hk]
      have e : cellOf env n = pure c := by unfold cellOf; rw [hc]
      rw [e]
      show (forIn r ((n, c) :: acc) f : Sem _) = _
      rw [closFor_go f hf r _ hr]
      conv => rhs; unfold closOf
      rw [if_pos hk, hc]
      rfl
    · rw [if_neg hk]
      show (forIn r acc f : Sem _) = _
      rw [closFor_go f hf r _ hr]
      conv => rhs; unfold closOf
      rw [if_neg hk]
theorem closureFor_eq {scope : Scope} {env : Env} (h : ∀ x ∈ scope.names, x.2 = .free → ∃ c, env.cells.lookup x.1 = some c) : closureFor scope env = pure (closOf env.cells scope.names []) := by
  simp only [closureFor]
  rw [closFor_go (env := env) _ (fun name kind cs => by cases hk : kind == NameKind.free <;> simp [hk]) scope.names [] h]
  rfl
theorem closOf_mem {cells : List (Str × Addr)} : ∀ {l : List (Str × NameKind)} {acc : List (Str × Addr)} {n : Str} {c : Addr}, (∀ x ∈ l, x.2 = .free → ∃ c, cells.lookup x.1 = some c) → (n, c) ∈ closOf cells l acc →
    (n, c) ∈ acc ∨ ((n, NameKind.free) ∈ l ∧ cells.lookup n = some c)
  | [], acc, n, c, _, h => .inl h
  | (m, k) :: r, acc, n, c, hl, h => by
    have hr : ∀ x ∈ r, x.2 = .free → ∃ c, cells.lookup x.1 = some c := fun x hx => hl x (List.mem_cons_of_mem _ hx)
    unfold closOf at h
    by_cases hk : (k == NameKind.free) = true
    · rw [if_pos hk] at h
      have hk' : k = .free := by simpa using hk
      subst hk'
      obtain ⟨c', hc'⟩ := hl (m, .free) List.mem_cons_self rfl
      rcases closOf_mem hr h with h | ⟨h1, h2⟩
      · rcases List.mem_cons.mp h with e | h
        · have hc2 : cells.lookup m = some c' := hc'
          rw [hc2] at e
          cases e
          exact .inr ⟨List.mem_cons_self, hc'⟩
        · exact .inl h
      · exact .inr ⟨List.mem_cons_of_mem _ h1, h2⟩
    · rw [if_neg hk] at h
      rcases closOf_mem hr h with h | ⟨h1, h2⟩
      · exact .inl h
      · exact .inr ⟨List.mem_cons_of_mem _ h1, h2⟩
theorem lookup_some_of_key {α : Type} : ∀ {l : List (Str × α)} {n : Str}, (∃ c, (n, c) ∈ l) → ∃ c, l.lookup n = some c
  | [], n, ⟨c, h⟩ => nomatch h
  | (m, v) :: r, n, ⟨c, h⟩ => by
    rw [List.lookup_cons]
    cases hb : n == m with
    | true => exact ⟨v, rfl⟩
    | false =>
      rcases List.mem_cons.mp h with e | h
      · cases e; simp at hb
      · exact lookup_some_of_key ⟨c, h⟩
theorem closOf_sub {cells : List (Str × Addr)} : ∀ {l : List (Str × NameKind)} {acc : List (Str × Addr)} {p : Str × Addr}, p ∈ acc → p ∈ closOf cells l acc
  | [], acc, p, h => h
  | (m, k) :: r, acc, p, h => by
    unfold closOf
    split
    · exact closOf_sub (List.mem_cons_of_mem _ h)
    · exact closOf_sub h
theorem closOf_key {cells : List (Str × Addr)} : ∀ {l : List (Str × NameKind)} {acc : List (Str × Addr)} {n : Str}, (n, NameKind.free) ∈ l → ∃ c, (n, c) ∈ closOf cells l acc
  | (m, k) :: r, acc, n, h => by
    unfold closOf
    rcases List.mem_cons.mp h with e | h
    · cases e
      exact ⟨_, closOf_sub List.mem_cons_self⟩
    · split
      · exact closOf_key h
      · exact closOf_key h
theorem cellsFrom_app : ∀ (l : List (Str × NameKind)) (n : Nat) (acc : List (Str × Addr)), cellsFrom n l acc = cellsFrom n l [] ++ acc
  | [], n, acc => rfl
  | (m, k) :: r, n, acc => by
    unfold cellsFrom
    split
    · rw [cellsFrom_app r (n + 1) ((m, n) :: acc), cellsFrom_app r (n + 1) [(m, n)], List.append_assoc]; rfl
    · exact cellsFrom_app r n acc
theorem cellsFrom_mem : ∀ {l : List (Str × NameKind)} {n : Nat} {x : Str} {c : Addr}, (x, c) ∈ cellsFrom n l [] → (x, NameKind.cell) ∈ l
  | (m, k) :: r, n, x, c, h => by
    unfold cellsFrom at h
    by_cases hk : (k == NameKind.cell) = true
    · rw [if_pos hk, cellsFrom_app] at h
      rcases List.mem_append.mp h with h | h
      · exact List.mem_cons_of_mem _ (cellsFrom_mem h)
      · have e : (x, c) = (m, n) := by simpa using h
        cases e
        have : k = .cell := by simpa using hk
        subst this
        exact List.mem_cons_self
    · rw [if_neg hk] at h
      exact List.mem_cons_of_mem _ (cellsFrom_mem h)
theorem cellsFrom_key : ∀ {l : List (Str × NameKind)} {n : Nat} {x : Str}, (x, NameKind.cell) ∈ l → ∃ c, (x, c) ∈ cellsFrom n l []
  | (m, k) :: r, n, x, h => by
    unfold cellsFrom
    rcases List.mem_cons.mp h with e | h
    · cases e
      rw [if_pos (by decide), cellsFrom_app]
      exact ⟨n, List.mem_append_right _ List.mem_cons_self⟩
    · split
      · rw [cellsFrom_app]
        obtain ⟨c, hc⟩ := cellsFrom_key (n := n + 1) h
        exact ⟨c, List.mem_append_left _ hc⟩
      · exact cellsFrom_key h

/-- the context of a comprehension's block -/
noncomputable def blk (X : Cx) (own fre : List Str) (scope : Scope) (L : Addr) (cells : List (Str × Addr)) (s₀ : Shared) (H₀ : Hp) (ex : List Addr) (pn : List (Addr × Obj)) : Cx where
  prog := X.prog
  w := X.w
  K := X.K
  mg := X.mg
  base := X.base
  A := X.A
  N := own ++ fre
  s₀ := s₀
  H₀ := H₀
  env := compEnvC scope cells L X.env
  outer := X.stack
  stack := X.stack
  ex := ex
  fn := fun x => own.contains x
  calm := X.calm
  pn := pn
  xe := fun _ _ => False
/-- the block's names at a turn's start -/
noncomputable def bst (own : Nat) (idx : List Nat) (σ : St) : St := List.replicate own none ++ idx.map fun i => (σ[i]?).join
structure BlkOk (X : Cx) (own fre : List Str) (idx : List Nat) (scope : Scope) : Prop where
  kind : scope.kind = .function
  free : (scope.names.all fun x => x.2 != .free || (X.env.kindOf x.1 == some .cell || X.env.kindOf x.1 == some .free)) = true
  loc : (scope.names.all fun x => x.2 != .local || scope.names.lookup x.1 == some .local) = true
  ownB : (scope.names.all fun x => x.2 != .free || !own.contains x.1) = true
  freB : ((fre.zip idx).all fun p => scope.names.lookup p.1 == some .free && X.N[p.2]? == some p.1) = true
  len : fre.length = idx.length
  nd : (scope.names.map (·.1)).Nodup
theorem key_one {l : List (Str × NameKind)} : (l.map (·.1)).Nodup → ∀ {x : Str} {k1 k2 : NameKind}, (x, k1) ∈ l → (x, k2) ∈ l → k1 = k2 := by
  induction l with
  | nil => intro _ x k1 k2 h; exact nomatch h
  | cons p r ih =>
    intro nd x k1 k2 h1 h2
    rw [List.map_cons, List.nodup_cons] at nd
    rcases List.mem_cons.mp h1 with e1 | h1 <;> rcases List.mem_cons.mp h2 with e2 | h2
    · rw [← e1] at e2; cases e2; rfl
    · exact absurd (List.mem_map.mpr ⟨_, h2, by rw [← e1]⟩) nd.1
    · exact absurd (List.mem_map.mpr ⟨_, h1, by rw [← e2]⟩) nd.1
    · exact ih nd.2 h1 h2
section
variable {X : Cx} {own fre : List Str} {idx : List Nat} {scope : Scope} {pins : List (Addr × Obj)} {σ : St} {H : Hp} {s : Shared}
theorem BlkOk.freeC (B : BlkOk X own fre idx scope) {x : Str × NameKind} (hx : x ∈ scope.names) (h : x.2 = .free) : X.env.kindOf x.1 = some .cell ∨ X.env.kindOf x.1 = some .free := by
  have := List.all_eq_true.mp B.free x hx
  rw [h] at this
  simpa using this
theorem BlkOk.cells (B : BlkOk X own fre idx scope) (ok : X.Ok) : ∀ x ∈ scope.names, x.2 = .free → ∃ c, X.env.cells.lookup x.1 = some c := fun x hx h => ok.has x.1 (B.freeC hx h)
noncomputable def rl (env : Env) (p : Str × NameKind) : Str × NameKind := if (p.2 == NameKind.free && env.scope.kind == .function && env.kindOf p.1 == some .cell) = true then (p.1, NameKind.cell) else p
theorem rl_fst (env : Env) (p : Str × NameKind) : (rl env p).1 = p.1 := by unfold rl; split <;> rfl
theorem rl_snd (env : Env) (p : Str × NameKind) : (rl env p).2 = p.2 ∨ ((rl env p).2 = .cell ∧ p.2 = .free) := by
  unfold rl
  split
  · rename_i hc
    rw [Bool.and_eq_true, Bool.and_eq_true] at hc
    exact .inr ⟨rfl, by simpa using hc.1.1⟩
  · exact .inl rfl
theorem lookup_pair {α : Type} (p : Str × α) (r : List (Str × α)) (x : Str) : (p :: r).lookup x = if (x == p.1) = true then some p.2 else r.lookup x := by
  rw [show p = (p.1, p.2) from rfl, List.lookup_cons]
  cases x == p.1 <;> rfl
theorem relabel_kind {env : Env} : ∀ {l : List (Str × NameKind)} {x : Str} {k : NameKind}, (l.map (rl env)).lookup x = some k → (l.lookup x = some k ∨ (k = .cell ∧ l.lookup x = some .free))
  | [], x, k, h => by simp at h
  | p :: r, x, k, h => by
    rw [List.map_cons, lookup_pair, rl_fst] at h
    rw [lookup_pair]
    by_cases hx : (x == p.1) = true
    · rw [if_pos hx] at h ⊢
      rcases rl_snd env p with e | ⟨e1, e2⟩
      · rw [e] at h; exact .inl h
      · rw [e1] at h; cases h
        rw [e2]
        exact .inr ⟨rfl, rfl⟩
    · rw [if_neg hx] at h ⊢
      exact relabel_kind h
theorem relabel_free {env : Env} : ∀ {l : List (Str × NameKind)} {x : Str}, l.lookup x = some .free → (l.map (rl env)).lookup x = some .cell ∨ (l.map (rl env)).lookup x = some .free
  | [], x, h => by simp at h
  | p :: r, x, h => by
    rw [lookup_pair] at h
    rw [List.map_cons, lookup_pair, rl_fst]
    by_cases hx : (x == p.1) = true
    · rw [if_pos hx] at h ⊢
      rcases rl_snd env p with e | ⟨e1, e2⟩
      · rw [e]; exact .inr h
      · rw [e1]; exact .inl rfl
    · rw [if_neg hx] at h ⊢
      exact relabel_free h
/-- the cells of the block -/
theorem blk_cell (B : BlkOk X own fre idx scope) (ok : X.Ok) {n : Nat} {x : Str} {c : Addr} (h : (cellsFrom n scope.names (closOf X.env.cells scope.names [])).lookup x = some c) :
    ((x, c) ∈ cellsFrom n scope.names [] ∧ (x, NameKind.cell) ∈ scope.names) ∨ ((x, NameKind.free) ∈ scope.names ∧ X.env.cells.lookup x = some c) := by
  have h1 := mem_of_lookup h
  rw [cellsFrom_app] at h1
  rcases List.mem_append.mp h1 with h1 | h1
  · exact .inl ⟨h1, cellsFrom_mem h1⟩
  · rcases closOf_mem (B.cells ok) h1 with h1 | h1
    · exact nomatch h1
    · exact .inr h1
end

section
variable {prog : Program} {w : World} {A : Around} {E : Value → Shared → Prop} {R : Result → Shared → Prop} {s : Shared}
/-- the block's loop: nothing is raised -/
theorem compLoop_any {elt target iter : Expr} {ifs : List Expr} {scope : Scope} {pos : Pos} {it acc : Value} {env : Env} (I : Nat → Shared → Prop)
    (turn : ∀ n s, I n s → wpAny (model prog w) A (pyNext it) (fun r s₁ => match r with
      | none => R (.ok .next) s₁
      | some v => wpAny (model prog w) A (letOwnedTupleGo target it v) (fun _ s₂ => wpAny (model prog w) A (assign target env v) (fun _ s₃ =>
          wpAny (model prog w) A (forIn ifs true fun c r => if r = true then do let ok ← isTrue c env (eval c env); pure (ForInStep.yield ok) else pure (ForInStep.yield r)) (fun ok s₄ =>
            if ok = true then wpAny (model prog w) A (eval elt env) (fun x s₅ =>
              wpAny (model prog w) A (call (.builtin "list.append") [acc, x]) (fun _ s₆ => ∃ m, m < n ∧ I m s₆) (fun _ _ => False) s₅) (fun _ _ => False) s₄
            else ∃ m, m < n ∧ I m s₄) (fun _ _ => False) s₃) (fun _ _ => False) s₂) (fun _ _ => False) s₁) (fun _ _ => False) s)
    (n : Nat) (h : I n s) :
    codeAny (model prog w) A (.compLoop (.ListComp elt [⟨target, iter, ifs, 0⟩] scope pos) 0 it acc env) R s := by
  refine codeAny_loop rfl I (fun n s hI => ?_) n h
  show wpAny _ A ((compTurn (.ListComp elt [⟨target, iter, ifs, 0⟩] scope pos) 0 it acc env).onRaise (fun x => do noteFrame x env; theTreesLotGoes x)) _ _ s
  refine wpAny_noted ?_
  rw [compTurn_list]
  refine wpAny_bind (wpAny_standAt (wpAny_bind (wpAny_mono (turn n s hI) (fun r s₁ h₁ => ?_) fun _ _ h' => h'.elim)))
  cases r with
  | none => exact wpAny_pure h₁
  | some v =>
    refine wpAny_bind (wpAny_mono h₁ (fun _ s₂ h₂ => ?_) fun _ _ h' => h'.elim)
    refine wpAny_bind (wpAny_mono h₂ (fun _ s₃ h₃ => wpAny_bind (wpAny_mono h₃ (fun ok s₄ h₄ => ?_) fun _ _ h' => h'.elim)) fun _ _ h' => h'.elim)
    cases ok with
    | false => exact wpAny_pure ⟨rfl, h₄⟩
    | true =>
      exact wpAny_bind (wpAny_bind (wpAny_mono h₄ (fun x s₅ h₅ => wpAny_bind (wpAny_mono h₅ (fun _ s₆ h₆ => wpAny_pure (wpAny_pure ⟨rfl, h₆⟩)) fun _ _ h' => h'.elim)) fun _ _ h' => h'.elim))
end

section
variable {X : Cx} {own fre : List Str} {idx : List Nat} {scope : Scope} {pins : List (Addr × Obj)} {σ : St} {H : Hp} {s : Shared}
noncomputable abbrev bcells (X : Cx) (scope : Scope) (L : Addr) : List (Str × Addr) := cellsFrom (L + 1) scope.names (closOf X.env.cells scope.names [])
noncomputable abbrev dictO : Obj := { cls := .type "dict", data := .dict #[] }
theorem bst_get {own : Nat} {idx : List Nat} {σ : St} {i : Nat} {v : V} (h : (bst own idx σ)[i]? = some (some v)) : ∃ j k, i = own + j ∧ idx[j]? = some k ∧ σ[k]? = some (some v) := by
  unfold bst at h
  by_cases hi : i < own
  · rw [List.getElem?_append_left (by simpa using hi)] at h
    rw [List.getElem?_replicate] at h
    rw [if_pos hi] at h
    cases h
  · rw [List.getElem?_append_right (by simpa using Nat.le_of_not_lt hi)] at h
    rw [List.length_replicate, List.getElem?_map] at h
    cases e : idx[i - own]? with
    | none => rw [e] at h; cases h
    | some k =>
      rw [e] at h
      refine ⟨i - own, k, by (first | lia | omega), e, ?_⟩
      have h' : some ((σ[k]?).join) = some (some v) := h
      have h2 := Option.some.inj h'
      cases e2 : σ[k]? with
      | none => rw [e2] at h2; cases h2
      | some o => rw [e2] at h2; rw [show o = some v from h2]
/-- the block begins: its frame and cells are laid behind s -/
theorem blk_start (B : BlkOk X own fre idx scope) (I : Inv X pins σ H s) {ex : List Addr} (hex : ∀ b ∈ ex, FpOk X pins H b ∧ b < s.heap.objs.size) :
    Inv (blk X own fre scope s.heap.objs.size (bcells X scope s.heap.objs.size) s H ex (X.pn ++ pins)) [] (bst own.length idx σ) H { s with heap := pushCells (s.heap.push dictO) scope.names } := by
  have ok := I.ok
  have hsz : (s.heap.push dictO).objs.size = s.heap.objs.size + 1 := Heap.size_push ..
  have keep : ∀ b o, s.heap.get? b = some o → (pushCells (s.heap.push dictO) scope.names).get? b = some o := fun b o e => pushCells_keeps _ _ b o (Heap.get?_push_of_some _ e)
  have cok := cellsFrom_ok scope.names (s.heap.push dictO) (s.heap.objs.size + 1) [] ⟨fun _ _ hm => (nomatch hm), List.Pairwise.nil⟩ (by rw [hsz]; exact Nat.le_refl _)
  rw [hsz] at cok
  have freeLt : ∀ x c, X.env.cells.lookup x = some c → c < s.heap.objs.size := fun x c e => let ⟨_, h⟩ := I.cell x c e; h.lt
  have cellC : ∀ x c, (bcells X scope s.heap.objs.size).lookup x = some c → (s.heap.objs.size + 1 ≤ c ∧ (pushCells (s.heap.push dictO) scope.names).IsCell c none ∧ (x, c) ∈ cellsFrom (s.heap.objs.size + 1) scope.names [] ∧ (x, NameKind.cell) ∈ scope.names) ∨ (X.env.cells.lookup x = some c ∧ c < s.heap.objs.size ∧ (x, NameKind.free) ∈ scope.names) := fun x c e => by
    rcases blk_cell B ok e with ⟨h1, h2⟩ | ⟨h1, h2⟩
    · exact .inl ⟨(cok.empty x c h1).2, (cok.empty x c h1).1, h1, h2⟩
    · exact .inr ⟨h2, freeLt x c h2, h1⟩
  have hfs : ∀ b ∈ frs X.stack, b < s.heap.objs.size := fun b hb => by
    rcases List.mem_cons.mp (I.stkSub b hb) with e | hb
    · rw [e]; exact I.lt
    · obtain ⟨_, o, ho, _⟩ := I.ok.funs.mem hb
      exact Nat.lt_of_lt_of_le (Heap.lt_size ho) I.sz
  have OK : (blk X own fre scope s.heap.objs.size (bcells X scope s.heap.objs.size) s H ex (X.pn ++ pins)).Ok := by
    refine ⟨ok.mod, B.kind, ok.glob, ok.blt, Nat.le_refl _, ?_, ?_, ?_, ok.hd, ok.frames, .inl rfl, ?_, fun b o e => I.bs b o e, Nat.le_trans ok.bsz I.sz, ?_, ?_, I.stack, I.stkFree⟩
    · intro x y c e1 e2
      rcases cellC x c e1 with ⟨l1, _, m1, _⟩ | ⟨f1, l1, _⟩ <;> rcases cellC y c e2 with ⟨l2, _, m2, _⟩ | ⟨f2, l2, _⟩
      · exact name_of_addr cok.apart m1 m2
      · exact absurd (Nat.lt_of_lt_of_le l2 (Nat.le_of_succ_le l1)) (Nat.lt_irrefl _)
      · exact absurd (Nat.lt_of_lt_of_le l1 (Nat.le_of_succ_le l2)) (Nat.lt_irrefl _)
      · exact ok.inj x y c f1 f2
    · intro x hk
      have hk' : (relabel scope X.env).names.lookup x = some .cell ∨ (relabel scope X.env).names.lookup x = some .free := hk
      have hor : (x, NameKind.cell) ∈ scope.names ∨ (x, NameKind.free) ∈ scope.names := by
        rcases hk' with h | h
        · rcases relabel_kind h with h | ⟨_, h⟩
          · exact .inl (mem_of_lookup h)
          · exact .inr (mem_of_lookup h)
        · rcases relabel_kind h with h | ⟨h, _⟩
          · exact .inr (mem_of_lookup h)
          · cases h
      refine lookup_some_of_key ?_
      show ∃ c, (x, c) ∈ cellsFrom (s.heap.objs.size + 1) scope.names (closOf X.env.cells scope.names [])
      rw [cellsFrom_app]
      rcases hor with h | h
      · obtain ⟨c, hc⟩ := cellsFrom_key (n := s.heap.objs.size + 1) h
        exact ⟨c, List.mem_append_left _ hc⟩
      · obtain ⟨c, hc⟩ := closOf_key (cells := X.env.cells) (acc := []) h
        exact ⟨c, List.mem_append_right _ hc⟩
    · intro x c hf e
      rcases cellC x c e with ⟨l1, _⟩ | ⟨_, _, m1⟩
      · show s.heap.objs.size ≤ c
        (first | lia | omega)
      · have := List.all_eq_true.mp B.ownB _ m1
        have hf' : own.contains x = true := hf
        rw [hf'] at this
        simp at this
    · intro b hb
      obtain ⟨⟨_, _, _, _, f4, _⟩, hlt⟩ := hex b hb
      refine ⟨Nat.ne_of_lt hlt, fun x c e => ?_⟩
      rcases cellC x c e with ⟨l1, _⟩ | ⟨f1, _, _⟩
      · exact Ne.symm (Nat.ne_of_lt (Nat.lt_of_lt_of_le hlt (Nat.le_of_succ_le l1)))
      · exact f4 x c f1
    · intro b o e hb
      obtain ⟨⟨_, _, _, f3, _, _⟩, _⟩ := hex b hb
      rcases f3 with f3 | f3
      · exact ok.noex b o e f3
      · exact absurd (Heap.lt_size (ok.bs b o e).1) (Nat.not_lt.mpr f3)
    · intro b hb hm
      obtain ⟨⟨_, f1, f2, _⟩, _⟩ := hex b hb
      rcases List.mem_cons.mp (I.stkSub b hm) with e | hm
      · exact f1 e
      · exact f2 hm
  refine ⟨OK, rfl, I.bare, Un.kept keep, ?_, ?_, I.fresh, ?_, ?_, I.hok.kept keep, ?_⟩
  · refine ⟨fun _ => none, (Heap.Ns.new s.heap (.type "dict")).keeps (pushCells_keeps _ _), fun i x v e1 e2 e3 => ?_⟩
    obtain ⟨j, k, rfl, hj, hk⟩ := bst_get e2
    have e1' : (own ++ fre)[own.length + j]? = some x := e1
    rw [List.getElem?_append_right (Nat.le_add_right _ _), Nat.add_sub_cancel_left] at e1'
    have hz : (x, k) ∈ fre.zip idx := by
      refine List.mem_iff_getElem?.mpr ⟨j, ?_⟩
      rw [List.getElem?_zip_eq_some]
      exact ⟨e1', hj⟩
    have hq := List.all_eq_true.mp B.freB _ hz
    rw [Bool.and_eq_true] at hq
    have q1 : scope.names.lookup x = some .free := by simpa using hq.1
    have q2 : X.N[k]? = some x := by simpa using hq.2
    have kin := B.freeC (mem_of_lookup q1) rfl
    have vis : Vis X.env.scope x := .inr kin
    obtain ⟨m, hn, hl⟩ := I.loc
    obtain ⟨u, r, look⟩ := hl k x v q2 hk vis
    refine ⟨u, r, ?_⟩
    obtain ⟨c, hc, hcell⟩ : ∃ c, X.env.cells.lookup x = some c ∧ s.heap.IsCell c (some u) := by
      rcases look with ⟨hk1, _⟩ | ⟨_, c, e, z⟩
      · rcases kin with h | h <;> (rw [hk1] at h; cases h)
      · exact ⟨c, e, z⟩
    refine .inr ⟨relabel_free q1, c, ?_, hcell.keeps keep⟩
    have hl2 : ∃ c', (bcells X scope s.heap.objs.size).lookup x = some c' := by
      refine lookup_some_of_key ?_
      show ∃ c, (x, c) ∈ cellsFrom (s.heap.objs.size + 1) scope.names (closOf X.env.cells scope.names [])
      rw [cellsFrom_app]
      obtain ⟨c, hc⟩ := closOf_key (cells := X.env.cells) (acc := []) (mem_of_lookup q1)
      exact ⟨c, List.mem_append_right _ hc⟩
    obtain ⟨c', hc'⟩ := hl2
    rcases blk_cell B ok hc' with ⟨_, h2⟩ | ⟨_, h2⟩
    · exact nomatch key_one B.nd h2 (mem_of_lookup q1)
    · rw [hc] at h2
      cases h2
      exact hc'
  · intro x c e
    rcases cellC x c e with ⟨_, h, _⟩ | ⟨h, _, _⟩
    · exact ⟨none, h⟩
    · obtain ⟨v, z⟩ := I.cell x c h
      exact ⟨v, z.keeps keep⟩
  · intro x c e
    rcases cellC x c e with ⟨l, _⟩ | ⟨h, _, _⟩
    · exact I.hok.fresh (by (first | lia | omega))
    · exact I.freeC x c h
  · intro p hp
    rw [List.append_nil] at hp
    obtain ⟨h1, h2, h3, h4, h5⟩ := I.pin p hp
    refine ⟨keep _ _ h1, h2, Nat.ne_of_lt (Heap.lt_size h1), fun hm => ?_, h5⟩
    rcases List.mem_cons.mp (I.stkSub p.1 hm) with e | hm
    · exact h3 e
    · exact h4 hm
  · show (bst own.length idx σ).length = (own ++ fre).length
    unfold bst
    rw [List.length_append, List.length_replicate, List.length_map, List.length_append, B.len]

/-- behind the block: the list is the body's own -/
theorem blk_end {L D : Addr} {cells : List (Str × Addr)} {s₀ s' : Shared} {H₀ H' : Hp} {fp : List Addr} {pl : List (Addr × Obj)} {σb : St} {ys : List V} {its : List Value} {n : Nat} (I : Inv X pins σ H₀ s₀) (I' : Inv (blk X own fre scope L cells s₀ H₀ (D :: fp) (X.pn ++ pins)) pl σb H' s')
    (hfp : ∀ b ∈ fp, FpOk X pins H₀ b) (hD : FpOk X pins H₀ D) (hD' : H' D = none) (hv : Vals ys its) (hz : ys.length ≤ sizeLine) (e : s'.heap.get? D = some { cls := .type "list", data := .seq its.toArray n }) :
    Inv X pins σ (upd H' D (.lst ys)) s' := by
  have u := I'.base
  have nD : H₀ D = none := hD.1
  refine I.call' (ch := D :: fp) (H' := upd H' D (.lst ys)) I'.os ⟨u.keep, u.slot, fun b o h1 h2 h3 => ?_, u.there, fun b xs h => ?_, fun b o v h => ?_, fun b ps h => ?_⟩ (fun b o h => ?_) I'.bare fun b hb => ?_
  · rw [upd_ne (fun z => h3 (by rw [z]; exact List.mem_cons_self))]
    exact u.free b o h1 h2 h3
  · rw [upd_ne (ne_of_none h nD)]; exact u.tups b xs h
  · rw [upd_ne (ne_of_none h nD)]; exact u.frzs b o v h
  · rw [upd_ne (ne_of_none h nD)]; exact u.tbls b ps h
  · by_cases hb : b = D
    · subst hb
      rw [upd_same] at h
      cases h
      exact ⟨hz, its, n, hv, e⟩
    · rw [upd_ne hb] at h
      exact (I'.hok b o h).stay (fun c v _ q => q) (fun c q => by rw [upd_ne (ne_of_none q hD')]; exact q) fun c xs q => by rw [upd_ne (ne_of_none q hD')]; exact q
  · rcases List.mem_cons.mp hb with rfl | hb
    · obtain ⟨_, f1, _, f3, f4, f5⟩ := hD
      exact ⟨f3, f1, f4, f5⟩
    · obtain ⟨_, f1, _, f3, f4, f5⟩ := hfp b hb
      exact ⟨f3, f1, f4, f5⟩

/-- a target that stores into the first k names alone -/
noncomputable def GOwn (k : Nat) (g : TG) : Prop := ∀ v σ H Q, g v σ H Q → g v σ H fun σ' H' => Q σ' H' ∧ σ'.drop k = σ.drop k ∧ σ'.length = σ.length
noncomputable def GOwns (k : Nat) (g : TGs) : Prop := ∀ v σ H Q, g v σ H Q → g v σ H fun σ' H' => Q σ' H' ∧ σ'.drop k = σ.drop k ∧ σ'.length = σ.length
theorem gown_name {k i : Nat} (h : i < k) : GOwn k (gName i) := fun v σ H Q q => ⟨q, by rw [List.drop_set_of_lt h], List.length_set⟩
theorem gowns_nil {k : Nat} : GOwns k gNil := fun v σ H Q ⟨e, q⟩ => ⟨e, q, rfl, rfl⟩
theorem gowns_cons {k : Nat} {t : TG} {u : TGs} (ht : GOwn k t) (hm : ∀ v σ H Q Q', (∀ σ' H', Q σ' H' → Q' σ' H') → t v σ H Q → t v σ H Q') (hu : GOwns k u) : GOwns k (gCons t u) := fun vs σ H Q ⟨v, r, e, q⟩ =>
  ⟨v, r, e, hm _ _ _ _ _ (fun σ' H' ⟨q1, q2, q3⟩ => by
    have q4 := hu _ _ _ _ q1
    rw [q2, q3] at q4
    exact q4) (ht _ _ _ _ q)⟩
theorem gmono_name {i : Nat} : ∀ v σ H (Q Q' : St → Hp → Prop), (∀ σ' H', Q σ' H' → Q' σ' H') → gName i v σ H Q → gName i v σ H Q' := fun _ _ _ _ _ h q => h _ _ q
theorem gown_tup {K : PySem.W.Frag} {k n : Nat} {t : TGs} (h : GOwns k t) : GOwn k (gTup K n t) := fun v σ H Q ⟨a, xs, e, h1, h2, q⟩ => ⟨a, xs, e, h1, h2, h _ _ _ _ q⟩
theorem bst_back {own : Nat} {idx : List Nat} {σ σ' : St} (hd : σ'.drop own = (bst own idx σ).drop own) (i : Nat) (v : V) (h : (bst own idx σ)[i]? = some (some v)) : σ'[i]? = some (some v) := by
  obtain ⟨j, k, rfl, _, _⟩ := bst_get h
  rw [← List.getElem?_drop, hd, List.getElem?_drop]
  exact h
/-- a comprehension: W the invariant by the turn, a measure, what was gathered, the heap -/
noncomputable def tCompW (own : Nat) (idx : List Nat) (wi : TI) (g : TG) (tt : TT) (te : TE) (R : List V → Hp → Prop) : St → Hp → Prop := fun σ H => wi σ H fun J H1 => ∃ W : Nat → Nat → List V → Hp → Prop, (∃ m, W 0 m [] H1) ∧ ∀ i m ys H, W i m ys H →
  (J.stop i H ∧ ys.length ≤ sizeLine ∧ R ys H) ∨
  (J.go i H ∧ ys.length < sizeLine ∧ ∀ x H', J.yld i H x H' → g x (bst own idx σ) H' fun σ2 H2 => tt σ2 H2 fun b H3 => if b = true then te σ2 H3 fun y H4 => ∃ m', m' < m ∧ W (i + 1) m' (ys ++ [y]) H4 else ∃ m', m' < m ∧ W (i + 1) m' ys H3)
/-- every test of the comprehension -/
noncomputable def PTs (Y : Cx) (ifs : List Expr) (t : TT) : Prop := ∀ (pins : List (Addr × Obj)) (s : Shared) (σ : St) (H : Hp) (Q : Bool → Hp → Prop), Inv Y pins σ H s → t σ H Q →
  wpAny (model Y.prog Y.w) Y.A (forIn ifs true fun c r => if r = true then do let ok ← isTrue c Y.env (eval c Y.env); pure (ForInStep.yield ok) else pure (ForInStep.yield r)) (TP Y pins σ Q) Y.xe s
noncomputable def tTrue : TT := fun _ H Q => Q true H
theorem pts_nil {Y : Cx} : PTs Y [] tTrue := fun pins s σ H Q I h => wpAny_tests_nil ⟨H, I, h⟩
theorem pts_one {Y : Cx} {c : Expr} {t : TT} (h : PT Y c t) : PTs Y [c] t := fun pins s σ H Q I hq => wpAny_tests_one (h pins s σ H Q I hq)

theorem comp_run {elt tg iter : Expr} {ifs : List Expr} {pos : Pos} {wi : TI} {g : TG} {tt : TT} {te : TE} {use : Option (Value → Sem Unit)} {R : List V → Hp → Prop} {Q : Value → Shared → Prop} (B : BlkOk X own fre idx scope) (hc : X.calm = true) (hi : PI X tg iter wi) (hg : GOwn own.length g)
    (hb : ∀ (L : Addr) (cells : List (Str × Addr)) (s₀ : Shared) (H₀ : Hp) (ex : List Addr) (pn : List (Addr × Obj)), PG (blk X own fre scope L cells s₀ H₀ ex pn) tg g ∧ PTs (blk X own fre scope L cells s₀ H₀ ex pn) ifs tt ∧ PE (blk X own fre scope L cells s₀ H₀ ex pn) elt te)
    (hs : ∀ x, foldedSetIterable iter X.env x = pure x) (I : Inv X pins σ H s) (h : tCompW own.length idx wi g tt te R σ H)
    (hq : ∀ (ys : List V) (H' : Hp) (s' : Shared) (L D : Addr) (m : Str → Option Value), R ys H' → H' D = none → Inv X pins σ (upd H' D (.lst ys)) s' → s'.heap.Ns L m → upd H' D (.lst ys) L = none → FpOk X pins (upd H' D (.lst ys)) L →
      compPost (model X.prog X.w) X.A X.xe use Q (.ref D) L (.ok .next) s') :
    wpAny (model X.prog X.w) X.A (comprehension (.ListComp elt [⟨tg, iter, ifs, 0⟩] scope pos) scope X.env (firstIterPos [⟨tg, iter, ifs, 0⟩] pos) (newList []) false (eval iter X.env) use) Q X.xe s := by
  have hnames : ∀ x ∈ scope.names, x.2 = .local → scope.names.lookup x.1 = some .local := fun x hx hl => by
    have := List.all_eq_true.mp B.loc x hx
    rw [hl] at this
    simpa using this
  refine wpAny_comprehension_free (use := use) rfl hs (closureFor_eq (B.cells I.ok)) B.kind hnames (wpAny_mono (hi pins s σ H _ I h) (fun v s1 h1 => wpAny_mono h1 (fun itv s2 h2 => ?_) fun _ _ e => e) fun _ _ e => e)
  obtain ⟨it, fp, tn, J, H2, rfl, I2, T, st2, f2, W, ⟨m0, w0⟩, turn⟩ := h2
  refine wpAny_newObj_type ?_
  generalize hs3 : ({ s2 with heap := s2.heap.push { cls := .type "list", dict := none, data := .seq ([] : List Value).toArray } } : Shared) = s3
  have hD3 : s3.heap.get? s2.heap.objs.size = some { cls := .type "list", data := .seq ([] : List Value).toArray 0 } := by rw [← hs3]; exact Heap.get?_push_size _ rfl
  have keep23 : ∀ b o, s2.heap.get? b = some o → s3.heap.get? b = some o := fun b o e => by rw [← hs3]; exact Heap.get?_push_of_some _ e
  have I3 : Inv X pins σ H2 s3 := by rw [← hs3]; exact I2.kept (t' := s2.toks) fun b o e => Heap.get?_push_of_some _ e
  have sz3 : s3.heap.objs.size = s2.heap.objs.size + 1 := by rw [← hs3]; exact Heap.size_push ..
  generalize hD : s2.heap.objs.size = D at *
  have nD : H2 D = none := by rw [← hD]; exact I2.fresh
  have okD : FpOk X pins H2 D := I2.fpOk (by rw [hD]; exact Nat.le_refl _) nD
  have ltfp : ∀ b ∈ fp, b < D := fun b hb => by
    obtain ⟨o, ho, _⟩ := T.obj _ _ st2 b hb
    rw [← hD]; exact Heap.lt_size ho
  -- the block's frame
  simp only [newFunctionEnv, Option.isSome_some, if_true]
  refine wpAny_bind (wpAny_alloc ?_)
  refine wpAny_bind (wpAny_layCells _ (fun name kind cells => by cases hkc : kind == NameKind.cell <;> simp [hkc]) _ _ _ _ ?_)
  refine wpAny_bind (wpAny_pure (wpAny_pure ?_))
  have hL1 : (s3.heap.push dictO).objs.size = s3.heap.objs.size + 1 := Heap.size_push ..
  have I4 := blk_start (ex := D :: fp) B I3 (fun b hb => by
    rcases List.mem_cons.mp hb with rfl | hb
    · exact ⟨okD, by rw [sz3]; exact Nat.lt_succ_self _⟩
    · exact ⟨f2 b hb, by rw [sz3]; exact Nat.lt_succ_of_lt (ltfp b hb)⟩)
  generalize hs4 : ({ s3 with heap := pushCells (s3.heap.push dictO) scope.names } : Shared) = s4 at I4
  have keep34 : ∀ b o, s3.heap.get? b = some o → s4.heap.get? b = some o := fun b o e => by rw [← hs4]; exact pushCells_keeps _ _ b o (Heap.get?_push_of_some _ e)
  generalize hY : blk X own fre scope s3.heap.objs.size (bcells X scope s3.heap.objs.size) s3 H2 (D :: fp) (X.pn ++ pins) = Y at I4
  have YA : Y.A = X.A := by rw [← hY]; rfl
  have Yp : Y.prog = X.prog := by rw [← hY]; rfl
  have Yw : Y.w = X.w := by rw [← hY]; rfl
  have YK : Y.K = X.K := by rw [← hY]; rfl
  have Yc : Y.calm = true := by rw [← hY]; exact hc
  have Yx : Y.xe = fun _ _ => False := by rw [← hY]; rfl
  have Yex : Y.ex = D :: fp := by rw [← hY]; rfl
  have Ypn : Y.pn = X.pn ++ pins := by rw [← hY]; rfl
  have YL : Y.env.locals = s3.heap.objs.size := by rw [← hY]; rfl
  have hbY : PG Y tg g ∧ PTs Y ifs tt ∧ PE Y elt te := by rw [← hY]; exact hb ..
  have nDY : D ≠ Y.env.locals := by rw [YL, sz3]; exact Nat.ne_of_lt (Nat.lt_succ_self _)
  have okY := I4.ok
  have fsD : D ∉ Y.fs := okY.exfs D (by rw [Yex]; exact List.mem_cons_self)
  have pnD : ∀ p ∈ Y.pn, p.1 ≠ D := by rw [Ypn]; exact okD.2.2.2.2.2
  have FO : ∀ {H' : Hp} {o : Obj}, (∀ b ∈ fp, H' b = none) → ∀ b ∈ fp, FpOk Y [(D, o)] H' b := fun {H' o} hn b hb => by
    have m : b ∈ Y.ex := by rw [Yex]; exact List.mem_cons_of_mem _ hb
    refine ⟨hn b hb, (okY.exf b m).1, okY.exfs b m, .inl m, (okY.exf b m).2, fun p hp => ?_⟩
    rcases List.mem_append.mp hp with hp | hp
    · rw [Ypn] at hp
      exact (f2 b hb).2.2.2.2.2 p hp
    · have e : p = (D, o) := by simpa using hp
      rw [e]
      exact Ne.symm (Nat.ne_of_lt (ltfp b hb))
  have pinD : ∀ {pl : List (Addr × Obj)} {σ' : St} {H' : Hp} {s' : Shared} {o : Obj}, Inv Y pl σ' H' s' → s'.heap.get? D = some o → H' D = none → (∀ v, o.data ≠ .cell v) → Inv Y [(D, o)] σ' H' s' := fun {pl σ' H' s' o} I' e hn hd => I'.pins_of fun p hp => by
    have e' : p = (D, o) := by simpa using hp
    subst e'
    exact ⟨e, hn, nDY, fsD, hd⟩
  have loop : codeAny (model X.prog X.w) X.A (.compLoop (.ListComp elt [⟨tg, iter, ifs, 0⟩] scope pos) 0 (.ref it) (.ref D) Y.env) (compPost (model X.prog X.w) X.A X.xe use Q (.ref D) s3.heap.objs.size) s4 := by
    refine compLoop_any (fun n s' => ∃ i ys its k H', Inv Y [(D, ({ cls := .type "list", data := .seq (its : List Value).toArray k } : Obj))] (bst own.length idx σ) H' s' ∧ tn i s'.heap ∧ (∀ b ∈ fp, H' b = none) ∧ Vals ys its ∧ ys.length ≤ sizeLine ∧ W i n ys H') ?_ m0
      ⟨0, [], [], 0, H2, pinD I4 (keep34 _ _ hD3) nD (fun v z => nomatch z), T.keep _ _ _ st2 fun b _ o e => keep34 _ _ (keep23 _ _ e), fun b hb => (f2 b hb).1, .nil, Nat.zero_le _, w0⟩
    rintro n s' ⟨i, ys, its, k, H', I', st', fr', hv, hz, w'⟩
    have pD := I'.pin _ (List.mem_append_right _ List.mem_cons_self)
    rcases turn i n ys H' w' with ⟨stop, hl, hR⟩ | ⟨go, hl, step⟩
    · have z := T.done Y Yp Yw YK Yc i _ s' _ H' (fun _ _ => False) I' (FO fr') st' stop
      rw [YA] at z
      refine thn z fun r s5 ⟨hr, I5⟩ => ?_
      subst hr
      have pD5 := I5.pin _ (List.mem_append_right _ List.mem_cons_self)
      have I5' := I5
      rw [← hY] at I5'
      have E := blk_end I3 I5' (fun b hb => f2 b hb) okD pD5.2.1 hv hl pD5.1
      obtain ⟨m5, hm5, _⟩ := I5.loc
      rw [YL] at hm5
      have nL : H' s3.heap.objs.size = none := by rw [← YL]; exact I5.free
      have nL' : upd H' D (.lst ys) s3.heap.objs.size = none := by rw [upd_ne (by rw [← YL]; exact Ne.symm nDY)]; exact nL
      exact hq ys H' s5 _ D m5 hR pD5.2.1 E hm5 nL' (I3.fpOk (Nat.le_refl _) nL')
    · have z := T.item Y Yp Yw YK Yc i _ s' _ H' (fun _ _ => False) I' (FO fr') st' go
      rw [YA] at z
      refine thn z fun r s5 ⟨u, hr, h5⟩ => ?_
      subst hr
      refine thn h5 fun _ s6 ⟨x, H6, I6, r6, y6, st6, fr6⟩ => ?_
      have I6' := I6.pinned (FO fr6) (T.obj _ _ st6)
      have z7 := hbY.1 _ s6 _ H6 x u _ I6' r6 (hg _ _ _ _ (step x H6 y6))
      rw [Yp, Yw, YA, Yx] at z7
      refine thn z7 fun _ s7 ⟨σ7, H7, I7, q7, d7, l7⟩ => ?_
      have z8 := hbY.2.1 _ s7 σ7 H7 _ I7 q7
      rw [Yp, Yw, YA, Yx] at z8
      refine thn z8 fun ok s8 ⟨H8, I8, q8⟩ => ?_
      have tnK : ∀ {σ9 : St} {H9 : Hp} {s9 : Shared}, Inv Y ([(D, ({ cls := .type "list", data := .seq its.toArray k } : Obj))] ++ pinsAt fp s6.heap) σ9 H9 s9 → tn (i + 1) s9.heap ∧ ∀ b ∈ fp, H9 b = none := fun I9 =>
        ⟨T.keep _ _ _ st6 fun b hb o e => (I9.pin (b, o) (List.mem_append_right _ (List.mem_append_right _ (mem_pinsAt hb e)))).1, fun b hb => by
          obtain ⟨o, e, d⟩ := T.obj _ _ st6 b hb
          exact (I9.pin (b, o) (List.mem_append_right _ (List.mem_append_right _ (mem_pinsAt hb e)))).2.1⟩
      cases ok with
      | false =>
        rw [if_neg Bool.false_ne_true] at q8 ⊢
        obtain ⟨m', hm, w8⟩ := q8
        obtain ⟨t8, n8⟩ := tnK I8
        exact ⟨m', hm, i + 1, ys, its, k, H8, I8.unpinned.weak l7.symm (bst_back d7), t8, n8, hv, hz, w8⟩
      | true =>
        rw [if_pos rfl] at q8 ⊢
        have z9 := hbY.2.2 _ s8 σ7 H8 _ I8 q8
        rw [Yp, Yw, YA, Yx] at z9
        refine thn z9 fun y s9 ⟨v9, H9, I9, r9, m', hm, w9⟩ => ?_
        obtain ⟨t9, n9⟩ := tnK I9
        have pD9 := I9.pin (D, { cls := .type "list", data := .seq its.toArray k }) (List.mem_append_right _ (List.mem_append_left _ List.mem_cons_self))
        refine append_at pD9.1 (fun h10 sb hD10 => ?_) (by rw [List.size_toArray, ← hv.length]; exact Nat.le_of_lt hl)
        have I9a : Inv Y [] σ7 H9 s9 := I9.pins_of fun p hp => nomatch hp
        have I10 : Inv Y [] σ7 H9 { s9 with heap := h10 } := I9a.turned (t' := s9.toks) (it := D) (fun b o hb e => sb.extBut b o hb e) pD9.2.1 nDY (.inl (by rw [Yex]; exact List.mem_cons_self)) (okY.exf D (by rw [Yex]; exact List.mem_cons_self)).2 (fun p hp => by
          rw [List.append_nil] at hp
          exact pnD p hp)
        refine ⟨m', hm, i + 1, ys ++ [v9], its ++ [y], k + 1, H9, pinD (I10.weak l7.symm (bst_back d7)) ?_ pD9.2.1 (fun v z => nomatch z), ?_, n9, hv.append (.cons r9 .nil), ?_, w9⟩
        · show h10.get? D = _
          rw [hD10, List.push_toArray]
        · exact T.keep _ _ _ t9 fun b hb o e => sb.extBut b o (Nat.ne_of_lt (ltfp b hb)) e
        · rw [List.length_append, List.length_singleton]; exact hl
  have goal : codeAny (model X.prog X.w) X.A (.compStart (.ListComp elt [⟨tg, iter, ifs, 0⟩] scope pos) 0 (.ref it) (.ref D) Y.env) (compPost (model X.prog X.w) X.A X.xe use Q (.ref D) s3.heap.objs.size) s4 :=
    codeAny_compStart_list loop (T.self X.A 0 s4 _ _ (T.keep _ _ _ st2 fun b _ o e => keep34 _ _ (keep23 _ _ e)) loop)
  rw [← hY] at goal
  have hsz : ({ s3 with heap := s3.heap.push { cls := .type "dict", data := .dict #[] } } : Shared).heap.objs.size = s3.heap.objs.size + 1 := Heap.size_push ..
  rw [hsz]
  first
    | exact goal
    | (rw [← hs4] at goal; exact goal)
end
/-- a list comprehension as a value -/
noncomputable def tComp (own : Nat) (idx : List Nat) (wi : TI) (g : TG) (tt : TT) (te : TE) : TE := fun σ H Q => tCompW own idx wi g tt te (fun ys H' => ∀ p, H' p = none → Q (.ref p) (upd H' p (.lst ys))) σ H
section
variable {X : Cx} {scope : Scope}
theorem pe_comp {elt tg iter : Expr} {ifs : List Expr} {pos : Pos} {wi : TI} {g : TG} {tt : TT} {te : TE} (own fre : List Str) (idx : List Nat) (B : BlkOk X own fre idx scope) (hc : X.calm = true) (hi : PI X tg iter wi) (hg : GOwn own.length g)
    (hb : ∀ (L : Addr) (cells : List (Str × Addr)) (s₀ : Shared) (H₀ : Hp) (ex : List Addr) (pn : List (Addr × Obj)), PG (blk X own fre scope L cells s₀ H₀ ex pn) tg g ∧ PTs (blk X own fre scope L cells s₀ H₀ ex pn) ifs tt ∧ PE (blk X own fre scope L cells s₀ H₀ ex pn) elt te)
    (hs : ∀ x, foldedSetIterable iter X.env x = pure x := by intro _; rfl) : PE X (.ListComp elt [⟨tg, iter, ifs, 0⟩] scope pos) (tComp own.length idx wi g tt te) := by
  intro pins s σ H Q I h
  rw [eval_ListComp]
  refine comp_run (use := none) B hc hi hg hb hs I h fun ys H' s' L D m hR hD I' hn nL fL => ?_
  refine ⟨m, hn, fun h' hs' => ?_⟩
  obtain ⟨f0, f1, f2, f3, f4, f5⟩ := fL
  exact ⟨.ref D, _, I'.turned (t' := s'.toks) (it := L) (fun b o hb e => hs'.extBut b o hb e) f0 f1 f3 f4 f5, rfl, hR D hD⟩
/-- name = a comprehension (the name local, no cell): stored ahead of the block's end -/
noncomputable def tAsgC (own : Nat) (idx : List Nat) (wi : TI) (g : TG) (tt : TT) (te : TE) (i : Nat) : TS := fun D σ H => tCompW own idx wi g tt te (fun ys H' => ∀ p, H' p = none → D.nx (σ.set i (some (.ref p))) (upd H' p (.lst ys))) σ H
theorem ps_setC {elt tg iter : Expr} {ifs : List Expr} {pos pos' spos : Pos} {wi : TI} {g : TG} {tt : TT} {te : TE} {i : Nat} {x : Str} (hN : X.N.Nodup) (hi' : X.N[i]? = some x) (hx : X.env.scope.names.lookup x = some .local) (own fre : List Str) (idx : List Nat) (B : BlkOk X own fre idx scope) (hc : X.calm = true) (hi : PI X tg iter wi) (hg : GOwn own.length g)
    (hb : ∀ (L : Addr) (cells : List (Str × Addr)) (s₀ : Shared) (H₀ : Hp) (ex : List Addr) (pn : List (Addr × Obj)), PG (blk X own fre scope L cells s₀ H₀ ex pn) tg g ∧ PTs (blk X own fre scope L cells s₀ H₀ ex pn) ifs tt ∧ PE (blk X own fre scope L cells s₀ H₀ ex pn) elt te)
    (hsw : swapsWith (.ListComp elt [⟨tg, iter, ifs, 0⟩] scope pos) (some (.Name x pos')) spos.line X.env = pure true := by rfl)
    (hs : ∀ x, foldedSetIterable iter X.env x = pure x := by intro _; rfl) : PS X (.Assign [.Name x pos'] (.ListComp elt [⟨tg, iter, ifs, 0⟩] scope pos) spos) (tAsgC own.length idx wi g tt te i) := by
  intro pins s σ H D I h
  rw [exec_Assign_Name_used _ _ _ _ hsw]
  refine wpAny_bind (wpAny_standAt (wpAny_bind ?_))
  show wpAny _ X.A (do let _ ← comprehension (.ListComp elt [⟨tg, iter, ifs, 0⟩] scope pos) scope X.env _ (newList []) false (eval iter X.env) (some (assign (.Name x pos') X.env))) _ _ s
  refine wpAny_bind (wpAny_mono (comp_run (use := some (assign (.Name x pos') X.env)) (Q := fun _ s' => SP X pins D .next s') B hc hi hg hb hs I h fun ys H' s' L Da m hR hD I' hn nL fL => ?_) (fun _ s' hq => wpAny_pure (wpAny_pure hq)) fun _ _ e => e)
  obtain ⟨f0, f1, f2, f3, f4, f5⟩ := fL
  show wpAny _ X.A (assign (.Name x pos') X.env (.ref Da)) _ _ _
  refine wpAny_assign_Name (store_ok2 I' hN hi' (.inl hx) (show RelV (.ref Da) (.ref Da) from rfl) (fun s2 I2 ⟨a, sb, ha⟩ => ?_) (.inr hx))
  have hLa : L ≠ a := by
    rcases ha with rfl | ha
    · exact f1
    · exact Ne.symm (f4 x a ha)
  refine ⟨m, hn.sameBut sb hLa, fun h' hs' => ?_⟩
  exact ⟨_, _, I2.turned (t' := s2.toks) (it := L) (fun b o hb e => hs'.extBut b o hb e) f0 f1 f3 f4 f5, hR Da hD⟩
end
end L2

namespace L2
open PySem PySem.Spec PyProof.Rows
/-! ### data in the abstract heap -/
mutual
noncomputable def Rp (H : Hp) : PyData → V → Prop
  | .none, v => v = .non
  | .bool b, v => v = .bl b
  | .int i, v => v = .int i
  | .str x, v => v = .str x
  | .list ds, v => ∃ a xs, v = .ref a ∧ H a = some (.lst xs) ∧ Rps H ds xs
  | .tuple ds, v => ∃ a xs, v = .ref a ∧ H a = some (.tup xs) ∧ Rps H ds xs
  | .dict _, _ => False
noncomputable def Rps (H : Hp) : List PyData → List V → Prop
  | [], xs => xs = []
  | d :: ds, xs => ∃ x r, xs = x :: r ∧ Rp H d x ∧ Rps H ds r
end
mutual
theorem Rp.mono {H H' : Hp} (g : Same H H') : ∀ (d : PyData) (v : V), Rp H d v → Rp H' d v
  | .none, _, h => by simpa only [Rp] using h
  | .bool _, _, h => by simpa only [Rp] using h
  | .int _, _, h => by simpa only [Rp] using h
  | .str _, _, h => by simpa only [Rp] using h
  | .list ds, v, h => by
    simp only [Rp] at h ⊢
    obtain ⟨a, xs, e, h1, h2⟩ := h
    exact ⟨a, xs, e, g _ _ h1, Rps.mono g ds xs h2⟩
  | .tuple ds, v, h => by
    simp only [Rp] at h ⊢
    obtain ⟨a, xs, e, h1, h2⟩ := h
    exact ⟨a, xs, e, g _ _ h1, Rps.mono g ds xs h2⟩
  | .dict _, _, h => by simp only [Rp] at h
theorem Rps.mono {H H' : Hp} (g : Same H H') : ∀ (ds : List PyData) (xs : List V), Rps H ds xs → Rps H' ds xs
  | [], xs, h => by simpa only [Rps] using h
  | d :: ds, xs, h => by
    simp only [Rps] at h ⊢
    obtain ⟨x, r, e, h1, h2⟩ := h
    exact ⟨x, r, e, Rp.mono g d x h1, Rps.mono g ds r h2⟩
end
section
variable {X : Cx} {pins : List (Addr × Obj)} {σ : St} {H : Hp} {s : Shared}
mutual
theorem Rp.reads (I : Inv X pins σ H s) : ∀ (d : PyData) (v : V) (u : Value), Rp H d v → RelV v u → ∃ as, Reads s.heap u d as
  | .none, v, u, h, r => by
    simp only [Rp] at h
    subst h
    cases (show u = Value.none from r)
    exact ⟨_, .none⟩
  | .bool b, v, u, h, r => by
    simp only [Rp] at h
    subst h
    cases (show u = Value.bool b from r)
    exact ⟨_, .bool b⟩
  | .int i, v, u, h, r => by
    simp only [Rp] at h
    subst h
    obtain ⟨t, e⟩ := (show ∃ t, u = Value.int i t from r)
    subst e
    exact ⟨_, .int i t⟩
  | .str x, v, u, h, r => by
    simp only [Rp] at h
    subst h
    obtain ⟨t, e⟩ := (show ∃ t, u = Value.str x t from r)
    subst e
    exact ⟨_, .str x t⟩
  | .list ds, v, u, h, r => by
    simp only [Rp] at h
    obtain ⟨a, xs, e, h1, h2⟩ := h
    subst e
    cases (show u = Value.ref a from r)
    obtain ⟨_, its, n, hv, hg⟩ := (show ObjOk X.prog X.w H s.heap a (.lst xs) from I.hok a _ h1)
    obtain ⟨as, q⟩ := Rps.reads I ds xs its h2 hv
    exact ⟨_, .list hg rfl rfl q⟩
  | .tuple ds, v, u, h, r => by
    simp only [Rp] at h
    obtain ⟨a, xs, e, h1, h2⟩ := h
    subst e
    cases (show u = Value.ref a from r)
    obtain ⟨_, its, hv, o, hg, hc, n, hd⟩ := (show ObjOk X.prog X.w H s.heap a (.tup xs) from I.hok a _ h1)
    obtain ⟨as, q⟩ := Rps.reads I ds xs its h2 hv
    exact ⟨_, .tuple hg hc hd q⟩
  | .dict _, v, u, h, r => by simp only [Rp] at h
theorem Rps.reads (I : Inv X pins σ H s) : ∀ (ds : List PyData) (xs : List V) (us : List Value), Rps H ds xs → Vals xs us → ∃ as, ReadsAll s.heap us ds as
  | [], xs, us, h, r => by
    simp only [Rps] at h
    subst h
    cases r
    exact ⟨_, .nil⟩
  | d :: ds, xs, us, h, r => by
    simp only [Rps] at h
    obtain ⟨x, rr, e, h1, h2⟩ := h
    subst e
    cases r with
    | cons r1 r2 =>
      obtain ⟨as, q1⟩ := Rp.reads I d x _ h1 r1
      obtain ⟨bs, q2⟩ := Rps.reads I ds rr _ h2 r2
      exact ⟨_, .cons q1 q2⟩
end
/-- == and != of data -/
noncomputable def rEqD (f : Bool → Bool) : R2 := fun x y H Q => ∃ dx dy, Rp H dx x ∧ Rp H dy y ∧ dx.canLay0 = true ∧ dy.canLay0 = true ∧ min dx.depth dy.depth ≤ 60 ∧ Q (.bl (f (PyData.eqv dx dy))) H
theorem op_eqD {k : Nat} (hr : Room k X.A) : OpR X (compareOp .Eq) (rEqD id) := by
  intro pins s σ H x y v u Q I rx ry h
  obtain ⟨dx, dy, h1, h2, l1, l2, hd, q⟩ := h
  obtain ⟨as, r1⟩ := Rp.reads I dx x v h1 rx
  obtain ⟨bs, r2⟩ := Rp.reads I dy y u h2 ry
  exact SeqAt.compareEq_reads r1 r2 l1 l2 (by have := hr.units; (first | lia | omega)) ⟨.bl _, H, I, rfl, q⟩
theorem op_neD {k : Nat} (hr : Room k X.A) : OpR X (compareOp .NotEq) (rEqD not) := by
  intro pins s σ H x y v u Q I rx ry h
  obtain ⟨dx, dy, h1, h2, l1, l2, hd, q⟩ := h
  obtain ⟨as, r1⟩ := Rp.reads I dx x v h1 rx
  obtain ⟨bs, r2⟩ := Rp.reads I dy y u h2 ry
  exact SeqAt.compareNe_reads r1 r2 l1 l2 (by have := hr.units; (first | lia | omega)) ⟨.bl _, H, I, rfl, q⟩
end
/-! ### two lists walked together -/
noncomputable def Itz (K : PySem.W.Frag) (a b : Addr) : It :=
  ⟨fun i H => ∃ xs ys x y, SqL K H a xs ∧ SqL K H b ys ∧ xs[i]? = some x ∧ ys[i]? = some y,
   fun i H v H' => ∃ T x y, v = .ref T ∧ H T = none ∧ H' = upd H T (.tup [x, y]) ∧ (∀ xs, SqL K H a xs → xs[i]? = some x) ∧ (∀ ys, SqL K H b ys → ys[i]? = some y),
   fun i H => ∃ xs ys, SqL K H a xs ∧ SqL K H b ys ∧ (xs.length ≤ i ∨ ys.length ≤ i)⟩
noncomputable def ZipAt (z TI TO i1 i2 a b : Addr) (i : Nat) (h : Heap) : Prop := IsZip h z TI TO .none ∧ IsPair h TI (.ref i1) (.ref i2) ∧ (∃ u v, IsPair h TO u v) ∧ h.IsListIter i1 a i ∧ h.IsListIter i2 b i
theorem turn_zip {P : Program} {w : World} {K : PySem.W.Frag} {elts : List Expr} {k1 : Nat} {pos : Pos} (z TI TO i1 i2 a b : Addr) (D : ZipApart z TI TO i1 i2 a b) :
    Turn P w K (.Tuple elts k1 pos) (Itz K a b) [z, TI, TO, i1, i2] z (ZipAt z TI TO i1 i2 a b) where
  mem := by simp
  obj := fun i h st c hc => by
    obtain ⟨hz, hTI, ⟨u, v, hTO⟩, ⟨o1, e1, _, d1⟩, ⟨o2, e2, _, d2⟩⟩ := st
    simp only [List.mem_cons, List.not_mem_nil, or_false] at hc
    rcases hc with rfl | rfl | rfl | rfl | rfl
    · exact ⟨_, hz, fun v z => nomatch z⟩
    · exact ⟨_, hTI, fun v z => nomatch z⟩
    · exact ⟨_, hTO, fun v z => nomatch z⟩
    · exact ⟨o1, e1, fun v z => by rw [d1] at z; cases z⟩
    · exact ⟨o2, e2, fun v z => by rw [d2] at z; cases z⟩
  keep := fun i h h' st k => by
    obtain ⟨hz, hTI, ⟨u, v, hTO⟩, h1, h2⟩ := st
    exact ⟨k z (by simp) _ hz, k TI (by simp) _ hTI, ⟨u, v, k TO (by simp) _ hTO⟩, h1.at fun o e => k i1 (by simp) o e, h2.at fun o e => k i2 (by simp) o e⟩
  item := by
    intro X hP hw hK hc i pins s σ H E I hf st hg
    subst hP hw hK
    obtain ⟨hz, hTI, ⟨u0, v0, hTO⟩, h1, h2⟩ := st
    obtain ⟨xs, ys, x, y, q1, q2, ex, ey⟩ := hg
    obtain ⟨its1, rv1, p1, _⟩ := I.list q1
    obtain ⟨its2, rv2, p2, _⟩ := I.list q2
    obtain ⟨u, hu, ru⟩ := rv1.get ex
    obtain ⟨u', hu', ru'⟩ := rv2.get ey
    refine wpAny_pyNext_zip_item D hz hTI hTO h1 h2 p1.isList p2.isList (x := u) (y := u') (by simpa using hu) (by simpa using hu') fun h' z' TO' i1' i2' T' sz keep => ?_
    refine ⟨_, rfl, wpAny_letOwnedTupleGo_zip (s := { s with heap := h' }) z' fun h'' z'' sb => ?_⟩
    have hlt : ∀ c o, s.heap.get? c = some o → c < s.heap.objs.size := fun c o e => Heap.lt_size e
    have zlt := hlt _ _ hz
    have TOlt := hlt _ _ hTO
    have TIlt := hlt _ _ hTI
    have i1lt : i1 < s.heap.objs.size := let ⟨o, e, _⟩ := h1; hlt _ _ e
    have i2lt : i2 < s.heap.objs.size := let ⟨o, e, _⟩ := h2; hlt _ _ e
    have fz := hf z (by simp)
    have fTO := hf TO (by simp)
    have f1 := hf i1 (by simp)
    have f2 := hf i2 (by simp)
    have nT : H s.heap.objs.size = none := I.fresh
    have keep2 : ∀ c o, c ≠ z → c ≠ TO → c ≠ i1 → c ≠ i2 → s.heap.get? c = some o → h''.get? c = some o := fun c o c1 c2 c3 c4 e => sb.extBut c o c1 (keep c o c1 c2 c3 c4 e)
    have hT : h''.get? s.heap.objs.size = some { cls := .type "tuple", data := .seq #[u, u'] } := sb.extBut _ _ (Nat.ne_of_gt zlt) T'
    have TOK : IsTup h'' s.heap.objs.size [u, u'].toArray := ⟨_, hT, rfl, _, rfl⟩
    refine ⟨.ref s.heap.objs.size, upd H s.heap.objs.size (.tup [x, y]), ?_, rfl, ⟨_, x, y, rfl, nT, rfl, fun zs h => by rw [I.list_inj h q1]; exact ex, fun zs h => by rw [I.list_inj h q2]; exact ey⟩, ⟨z'', ?_, ⟨u, u', ?_⟩, ?_, ?_⟩, ?_⟩
    · have nch : ∀ c, H c ≠ none → c ≠ z ∧ c ≠ TO ∧ c ≠ i1 ∧ c ≠ i2 := fun c hc => ⟨fun e => hc (by rw [e]; exact fz.1), fun e => hc (by rw [e]; exact fTO.1), fun e => hc (by rw [e]; exact f1.1), fun e => hc (by rw [e]; exact f2.1)⟩
      refine Inv.step (s := s) (g' := s.gens) (d' := s.drawn) (t' := s.toks) (ch := [z, TO, i1, i2]) (h' := h'') I (fun b hb => ?_) (fun b o _ _ hc e _ => ?_) (fun b o _ _ hc e _ => ⟨o.slots, ?_⟩) (fun b o _ e n => ?_) (fun b o hc e => ⟨o, ?_⟩) (fun b xs e => ?_) (fun b o v e => ?_) (fun b ps e => ⟨#[], ?_⟩) (fun m hm => ?_) (fun b o e => ?_) I.bare
      · simp only [List.mem_cons, List.not_mem_nil, or_false] at hb
        rcases hb with rfl | rfl | rfl | rfl
        · exact ⟨fz.2.2.2.1, fz.2.1, fz.2.2.2.2.1, fz.2.2.2.2.2⟩
        · exact ⟨fTO.2.2.2.1, fTO.2.1, fTO.2.2.2.2.1, fTO.2.2.2.2.2⟩
        · exact ⟨f1.2.2.2.1, f1.2.1, f1.2.2.2.2.1, f1.2.2.2.2.2⟩
        · exact ⟨f2.2.2.2.1, f2.2.1, f2.2.2.2.2.1, f2.2.2.2.2.2⟩
      · simp only [List.mem_cons, List.not_mem_nil, or_false, not_or] at hc
        exact keep2 b o hc.1 hc.2.1 hc.2.2.1 hc.2.2.2 e
      · simp only [List.mem_cons, List.not_mem_nil, or_false, not_or] at hc
        exact keep2 b o hc.1 hc.2.1 hc.2.2.1 hc.2.2.2 e
      · rw [upd_ne (Nat.ne_of_lt (Heap.lt_size e))]; exact n
      · simp only [List.mem_cons, List.not_mem_nil, or_false, not_or] at hc
        exact keep2 b o hc.1 hc.2.1 hc.2.2.1 hc.2.2.2 e
      · rw [upd_ne (ne_of_none e nT)]; exact e
      · rw [upd_ne (ne_of_none e nT)]; exact e
      · rw [upd_ne (ne_of_none e nT)]; simpa using e
      · obtain ⟨o, es, ep, ho, r⟩ := hm
        exact ⟨o, es, ep, keep2 _ o (Ne.symm fz.2.1) (Ne.symm fTO.2.1) (Ne.symm f1.2.1) (Ne.symm f2.2.1) ho, r⟩
      · by_cases hb : b = s.heap.objs.size
        · subst hb
          rw [upd_same] at e
          cases e
          exact ⟨by show 2 ≤ sizeLine; decide, [u, u'], .cons ru (.cons ru' .nil), TOK⟩
        · rw [upd_ne hb] at e
          refine (I.hok b o e).stay (fun c v hc q => ?_) (fun c q => by rw [upd_ne (ne_of_none q nT)]; exact q) fun c xs q => by rw [upd_ne (ne_of_none q nT)]; exact q
          have hne : H c ≠ none := by
            rcases hc with rfl | hc
            · rw [e]; exact fun z => nomatch z
            · rw [hc]; exact fun z => nomatch z
          obtain ⟨c1, c2, c3, c4⟩ := nch c hne
          exact keep2 c v c1 c2 c3 c4 q
    · exact sb.extBut _ _ D.TIz (keep _ _ D.TIz D.TITO D.TIi1 D.TIi2 hTI)
    · exact sb.extBut _ _ D.TOz TO'
    · exact i1'.at fun o e => sb.extBut _ _ D.i1z e
    · exact i2'.at fun o e => sb.extBut _ _ D.i2z e
    · intro b hb
      rw [upd_ne ?_]
      · exact (hf b hb).1
      · simp only [List.mem_cons, List.not_mem_nil, or_false] at hb
        rcases hb with rfl | rfl | rfl | rfl | rfl
        · exact Nat.ne_of_lt zlt
        · exact Nat.ne_of_lt TIlt
        · exact Nat.ne_of_lt TOlt
        · exact Nat.ne_of_lt i1lt
        · exact Nat.ne_of_lt i2lt
  done := by
    intro X hP hw hK hc i pins s σ H E I hf st hg
    subst hP hw hK
    obtain ⟨hz, hTI, ⟨u0, v0, hTO⟩, h1, h2⟩ := st
    obtain ⟨xs, ys, q1, q2, hx⟩ := hg
    obtain ⟨its1, rv1, p1, _⟩ := I.list q1
    obtain ⟨its2, rv2, p2, _⟩ := I.list q2
    have l1 := rv1.length
    have l2 := rv2.length
    have fz := hf z (by simp)
    have fTO := hf TO (by simp)
    have f1 := hf i1 (by simp)
    have f2 := hf i2 (by simp)
    refine wpAny_pyNext_zip_end (I.ok.hd hc) D hz hTI hTO h1 h2 p1.isList p2.isList (by
      rcases hx with hx | hx
      · exact .inl (by simp; (first | lia | omega))
      · exact .inr (by simp; (first | lia | omega))) fun h' keep => ⟨rfl, ?_⟩
    have nch : ∀ c, H c ≠ none → c ≠ z ∧ c ≠ TO ∧ c ≠ i1 ∧ c ≠ i2 := fun c hc => ⟨fun e => hc (by rw [e]; exact fz.1), fun e => hc (by rw [e]; exact fTO.1), fun e => hc (by rw [e]; exact f1.1), fun e => hc (by rw [e]; exact f2.1)⟩
    refine Inv.step (s := s) (g' := s.gens) (d' := s.drawn) (t' := s.toks) (ch := [z, TO, i1, i2]) (h' := h') I (fun b hb => ?_) (fun b o _ _ hc e _ => ?_) (fun b o _ _ hc e _ => ⟨o.slots, ?_⟩) (fun b o _ e n => n) (fun b o hc e => ⟨o, ?_⟩) (fun b xs e => e) (fun b o v e => e) (fun b ps e => ⟨#[], by simpa using e⟩) (fun m hm => ?_) (fun b o e => ?_) I.bare
    · simp only [List.mem_cons, List.not_mem_nil, or_false] at hb
      rcases hb with rfl | rfl | rfl | rfl
      · exact ⟨fz.2.2.2.1, fz.2.1, fz.2.2.2.2.1, fz.2.2.2.2.2⟩
      · exact ⟨fTO.2.2.2.1, fTO.2.1, fTO.2.2.2.2.1, fTO.2.2.2.2.2⟩
      · exact ⟨f1.2.2.2.1, f1.2.1, f1.2.2.2.2.1, f1.2.2.2.2.2⟩
      · exact ⟨f2.2.2.2.1, f2.2.1, f2.2.2.2.2.1, f2.2.2.2.2.2⟩
    · simp only [List.mem_cons, List.not_mem_nil, or_false, not_or] at hc
      exact keep b o hc.1 hc.2.1 hc.2.2.1 hc.2.2.2 e
    · simp only [List.mem_cons, List.not_mem_nil, or_false, not_or] at hc
      exact keep b o hc.1 hc.2.1 hc.2.2.1 hc.2.2.2 e
    · simp only [List.mem_cons, List.not_mem_nil, or_false, not_or] at hc
      exact keep b o hc.1 hc.2.1 hc.2.2.1 hc.2.2.2 e
    · obtain ⟨o, es, ep, ho, r⟩ := hm
      exact ⟨o, es, ep, keep _ o (Ne.symm fz.2.1) (Ne.symm fTO.2.1) (Ne.symm f1.2.1) (Ne.symm f2.2.1) ho, r⟩
    · refine (I.hok b o e).stay (fun c v hc q => ?_) (fun c q => q) fun c xs q => q
      have hne : H c ≠ none := by
        rcases hc with rfl | hc
        · rw [e]; exact fun z => nomatch z
        · rw [hc]; exact fun z => nomatch z
      obtain ⟨c1, c2, c3, c4⟩ := nch c hne
      exact keep c v c1 c2 c3 c4 q
  self := fun _ _ _ _ _ st h => wpAny_pyIter_zip st.1 h
section
variable {X : Cx}
noncomputable def iZip (K : PySem.W.Frag) (ta : TA) : TI := fun σ H R => ta σ H fun vs H1 => ∃ a b xs ys, vs = [.ref a, .ref b] ∧ SqL K H1 a xs ∧ SqL K H1 b ys ∧ R (Itz K a b) H1
theorem pi_zip {a b : Expr} {ta : TA} {p pos : Pos} {elts : List Expr} {k1 : Nat} {tpos : Pos} (hg : Gl X "zip") (hm : X.mg "zip" = none) (ha : PA X [a, b] ta) (hs : starEach [a, b] X.env = [(false, eval a X.env), (false, eval b X.env)] := by rfl) (hs2 : starEach [b] X.env = [(false, eval b X.env)] := by rfl) :
    PI X (.Tuple elts k1 tpos) (.Call (.Name "zip" p) [a, b] [] pos) (iZip X.K ta) := by
  intro pins s σ H R I h
  refine wpAny_Call_Name_kw (ld_blt I hg hm bb_zip ?_)
  refine PyProof.Rows.callWith_type1 (thn (ha pos pins s σ H _ I h) fun us s1 ⟨vs, H1, I1, r1, q1⟩ => ?_) (by rw [hs, hs2]) (by rw [hs2]; rfl)
  obtain ⟨a1, b1, xs, ys, rfl, h1, h2, q⟩ := q1
  obtain ⟨u, w', rfl, ra, rb⟩ := Vals.two r1
  cases ra
  cases rb
  obtain ⟨its1, rv1, p1, _⟩ := I1.list h1
  obtain ⟨its2, rv2, p2, _⟩ := I1.list h2
  have l1 : a1 < s1.heap.objs.size := let ⟨_, e, _⟩ := p1.isList; Heap.lt_size e
  have l2 : b1 < s1.heap.objs.size := let ⟨_, e, _⟩ := p2.isList; Heap.lt_size e
  refine call_zip_2 p1.isList p2.isList fun h' hz hTI hTO hi1 hi2 hsz keep => ?_
  have I2 : Inv X pins σ H1 { s1 with heap := h' } := I1.kept (t' := s1.toks) keep
  refine wpAny_pyIter_zip (s := { s1 with heap := h' }) hz ?_
  refine ⟨_, _, _, _, H1, rfl, I2, turn_zip _ _ _ _ _ a1 b1 (zipApart_new l1 l2), ⟨hz, hTI, ⟨_, _, hTO⟩, hi1, hi2⟩, fun b hb => ?_, q⟩
  have hb' : s1.heap.objs.size ≤ b := by
    simp only [List.mem_cons, List.not_mem_nil, or_false] at hb
    rcases hb with rfl | rfl | rfl | rfl | rfl <;> (first | lia | omega)
  exact I1.fpOk hb' (I1.hok.fresh hb')
/-- sum of a list of ints -/
theorem preSum_take (ns : List Int) : ∀ j, j ≤ ns.length → preSum (fun i => ns.getD i 0) j = (ns.take j).sum
  | 0, _ => by simp [preSum]
  | j + 1, h => by
    have hj : j < ns.length := h
    rw [preSum, preSum_take ns j (Nat.le_of_lt hj), List.take_succ_eq_append_getElem hj, List.sum_append]
    simp [List.getD, hj]
theorem call_sumI (hc : X.calm = true) : CallR X (.builtin "sum") (fun xs H Q => ∃ p ns, xs = [.ref p] ∧ SqL X.K H p ((ns : List Int).map V.int) ∧ Q (.int ns.sum) H) := by
  intro pins s σ H xs us Q I r h
  obtain ⟨p, ns, rfl, hq, q⟩ := h
  obtain ⟨u, rfl, ru⟩ := Vals.one r
  cases ru
  obtain ⟨its, rv, pl, _⟩ := I.list hq
  have hh : X.A.in1.handled = none := I.ok.hd hc
  have lt : p < s.heap.objs.size := let ⟨_, e, _⟩ := pl.isList; Heap.lt_size e
  have hl : its.length = ns.length := by rw [← rv.length, List.length_map]
  refine call_sum_walkG (wpAny_pyIter_list pl.isList ?_)
  refine ⟨s.heap.objs.size, _, _, _, _, _, fun i => ns.getD i 0, rfl, Walks.list hh s.heap.objs.size p (Nat.ne_of_lt lt) its.toArray, ⟨⟨_, Heap.get?_push_size _ rfl, rfl, rfl⟩, pl.isList.at fun o e => Heap.get?_push_of_some _ e⟩, fun b hb => ?_, fun i v hv => ?_, fun h' tk t' keep => ?_⟩
  · simp only [List.mem_cons, List.not_mem_nil, or_false] at hb
    rcases hb with rfl | rfl
    · rw [Heap.size_push]; exact Nat.lt_succ_self _
    · rw [Heap.size_push]; exact Nat.lt_succ_of_lt lt
  · have hv' : its[i]? = some v := by simpa using hv
    have hi : i < ns.length := by rw [← hl]; exact (List.getElem?_eq_some_iff.mp hv').1
    obtain ⟨u, hu, ru⟩ := rv.get (i := i) (x := .int ns[i]) (by rw [List.getElem?_map, List.getElem?_eq_getElem hi]; rfl)
    rw [hu] at hv'
    cases hv'
    obtain ⟨t, e⟩ := ru
    refine ⟨t, ?_⟩
    rw [e]
    simp [List.getD, hi]
  · have e : preSum (fun i => ns.getD i 0) its.toArray.size = ns.sum := by
      rw [List.size_toArray, hl, preSum_take ns _ (Nat.le_refl _), List.take_length]
    rw [e]
    refine ⟨.int ns.sum, H, ?_, ⟨t', rfl⟩, q⟩
    exact I.kept (h' := h') (t' := tk) fun b o eb => keep b o (by simp only [List.mem_cons, List.not_mem_nil, or_false]; exact Nat.ne_of_lt (Heap.lt_size eb)) (Heap.get?_push_of_some _ eb)
end
end L2

namespace L2
open PySem PySem.Spec PyProof.Rows Nm
/-! ### numbers as data -/
noncomputable def toD : Nb → PyData
  | .q r => .tuple [.int r.num, .int (r.den : Int)]
  | .z i => .int i
noncomputable def RN (H : Hp) (x : Nb) (v : V) : Prop := Rp H (toD x) v
theorem RN.q {H : Hp} {r : Rat} {v : V} (h : RN H (.q r) v) : ∃ a, v = .ref a ∧ H a = some (.tup [.int r.num, .int (r.den : Int)]) := by
  simp only [RN, toD, Rp, Rps] at h
  obtain ⟨a, xs, e, h1, x, r1, e1, e2, y, r2, e3, e4, e5⟩ := h
  subst e5 e4 e3 e2 e1
  exact ⟨a, e, h1⟩
theorem RN.of_q {H : Hp} {r : Rat} {a : Addr} (h : H a = some (.tup [.int r.num, .int (r.den : Int)])) : RN H (.q r) (.ref a) := by
  simp only [RN, toD, Rp, Rps]
  exact ⟨a, _, rfl, h, _, _, rfl, rfl, _, _, rfl, rfl, rfl⟩
theorem RN.z {H : Hp} {i : Int} {v : V} (h : RN H (.z i) v) : v = .int i := by
  simpa only [RN, toD, Rp] using h
theorem RN.of_z {H : Hp} {i : Int} : RN H (.z i) (.int i) := by
  simp only [RN, toD, Rp]
theorem RN.mono {H H' : Hp} {x : Nb} {v : V} (h : RN H x v) (g : Same H H') : RN H' x v := Rp.mono g _ _ h
theorem toD_lay (x : Nb) : (toD x).canLay0 = true := by
  cases x <;> rfl
theorem toD_depth (x : Nb) : (toD x).depth ≤ 1 := by
  cases x <;> simp [toD, PyData.depth, PyData.depthAll]
theorem toD_eqv (x y : Nb) : PyData.eqv (toD x) (toD y) = decide (x = y) := by
  cases x with
  | q r =>
    cases y with
    | q s =>
      show ((r.num == s.num) && (((r.den : Int) == (s.den : Int)) && true)) = decide (Nb.q r = Nb.q s)
      by_cases h : r = s
      · subst h; simp
      · have h' : ¬ Nb.q r = Nb.q s := fun z => h (Nb.q.inj z)
        rw [decide_eq_false h']
        rw [Bool.and_eq_false_iff]
        by_cases h1 : r.num = s.num
        · right
          rw [Bool.and_true]
          have : ¬ (r.den : Int) = (s.den : Int) := fun z => h (Rat.ext h1 (by (first | lia | omega)))
          simp [this]
        · left; simp [h1]
    | z j => simp [toD, PyData.eqv]
  | z i =>
    cases y with
    | q s => simp [toD, PyData.eqv]
    | z j =>
      show (i == j) = decide (Nb.z i = Nb.z j)
      by_cases h : i = j
      · subst h; simp
      · have h' : ¬ Nb.z i = Nb.z j := fun z => h (Nb.z.inj z)
        rw [decide_eq_false h']; simp [h]
/-- sizes of a number -/
noncomputable def nsm (n : Nat) : Nb → Prop
  | .q r => Sm n r.num ∧ Sm n (r.den : Int)
  | .z i => Sm n i
theorem nsm.mono {m n : Nat} {x : Nb} (h : nsm m x) (hmn : m ≤ n) : nsm n x := by
  cases x with
  | q r => exact ⟨Sm.mono h.1 hmn, Sm.mono h.2 hmn⟩
  | z i => exact Sm.mono (show Sm m i from h) hmn
theorem sm_rest {k i : Int} (h0 : 0 ≤ i) (h1 : i < k) (h9 : k < 99) : Sm 7 i := by
  unfold Sm
  have : (2 : Nat) ^ 7 = 128 := by decide
  (first | lia | omega)
/-- of a fraction made: the parts are no greater than what they were made of -/
theorem divInt_den_le {t b : Int} (hb : b ≠ 0) : ((Rat.divInt t b).den : Int).natAbs ≤ b.natAbs := by
  have h := (frac_num (t := t) hb).2
  rw [← h, Int.fdiv_eq_ediv_of_dvd (sg_dvd_b t b)]
  have e := Int.ediv_mul_cancel (sg_dvd_b t b)
  have h1 : (b / sg t b * sg t b).natAbs = b.natAbs := by rw [e]
  rw [Int.natAbs_mul] at h1
  have h2 : 0 < (sg t b).natAbs := Int.natAbs_pos.mpr (sg_ne hb)
  rw [← h1]
  exact Nat.le_mul_of_pos_right _ h2
theorem divInt_num_le {t b : Int} (hb : b ≠ 0) : (Rat.divInt t b).num.natAbs ≤ t.natAbs := by
  have h := (frac_num (t := t) hb).1
  rw [← h, Int.fdiv_eq_ediv_of_dvd (sg_dvd_t t b)]
  have e := Int.ediv_mul_cancel (sg_dvd_t t b)
  have h1 : (t / sg t b * sg t b).natAbs = t.natAbs := by rw [e]
  rw [Int.natAbs_mul] at h1
  have h2 : 0 < (sg t b).natAbs := Int.natAbs_pos.mpr (sg_ne hb)
  rw [← h1]
  exact Nat.le_mul_of_pos_right _ h2
theorem divInt_sm {m n : Nat} {t b : Int} (hb : b ≠ 0) (ht : Sm m t) (hs : Sm n b) : Sm m (Rat.divInt t b).num ∧ Sm n ((Rat.divInt t b).den : Int) := ⟨ht.le (divInt_num_le hb), hs.le (divInt_den_le hb)⟩
/-! ### what the four make -/
theorem fmod_ok {k : Int} (hk : k ≠ 0) (k0 : 0 ≤ k) (a : Int) : Nb.ok k (.z (a.fmod k)) := ⟨hk, Int.fmod_nonneg_of_pos a (by (first | lia | omega)), Int.fmod_lt_of_pos a (by (first | lia | omega))⟩
theorem ok_pair {k : Int} {x y : Nb} (hx : x.ok k) (hy : y.ok k) : (k = 0 ∧ ∃ r s, x = .q r ∧ y = .q s) ∨ (k ≠ 0 ∧ ∃ i j, x = .z i ∧ y = .z j ∧ 0 ≤ i ∧ i < k ∧ 0 ≤ j ∧ j < k) := by
  cases x with
  | q r =>
    cases y with
    | q s => exact .inl ⟨hx, r, s, rfl, rfl⟩
    | z j => exact absurd (show k = 0 from hx) hy.1
  | z i =>
    cases y with
    | q s => exact absurd (show k = 0 from hy) hx.1
    | z j => exact .inr ⟨hx.1, i, j, rfl, rfl, hx.2.1, hx.2.2, hy.2.1, hy.2.2⟩
section
variable {k : Int} {x y : Nb}
theorem nsub_ok (k0 : 0 ≤ k) (hx : x.ok k) (hy : y.ok k) : (nsub k x y).ok k := by
  rcases ok_pair hx hy with ⟨h, r, s, rfl, rfl⟩ | ⟨h, i, j, rfl, rfl, _⟩
  · exact h
  · exact fmod_ok h k0 _
theorem sm_ok {n : Nat} (hk : KindOk k) (h : k ≠ 0) (hn : 7 ≤ n) (a : Int) : nsm n (.z (a.fmod k)) := by
  have hl := hk.lt
  have h0 := Int.fmod_nonneg_of_pos a (show 0 < k by (first | lia | omega))
  have h1 := Int.fmod_lt_of_pos a (show 0 < k by (first | lia | omega))
  exact (sm_rest h0 h1 hl.2).mono hn
theorem rat_den_mul (r s : Rat) : (r.den : Int) * (s.den : Int) ≠ 0 := Int.mul_ne_zero (den_ne r) (den_ne s)
theorem nsub_sm {m : Nat} (hk : KindOk k) (hx : x.ok k) (hy : y.ok k) (sx : nsm m x) (sy : nsm m y) (hm : 7 ≤ m) : nsm (m + m + 1) (nsub k x y) := by
  rcases ok_pair hx hy with ⟨h, r, s, rfl, rfl⟩ | ⟨h, i, j, rfl, rfl, _⟩
  · show Sm _ (r - s).num ∧ Sm _ ((r - s).den : Int)
    rw [← rat_sub]
    obtain ⟨h1, h2⟩ := divInt_sm (t := r.num * s.den - s.num * r.den) (rat_den_mul r s) ((sx.1.mul sy.2).sub (sy.1.mul sx.2)) (sx.2.mul sy.2)
    exact ⟨h1, h2.mono (Nat.le_succ _)⟩
  · exact sm_ok hk h (by (first | lia | omega)) _
theorem nmul_sm {m : Nat} (hk : KindOk k) (hx : x.ok k) (hy : y.ok k) (sx : nsm m x) (sy : nsm m y) (hm : 7 ≤ m) : nsm (m + m) (nmul k x y) := by
  rcases ok_pair hx hy with ⟨h, r, s, rfl, rfl⟩ | ⟨h, i, j, rfl, rfl, _⟩
  · show Sm _ (r * s).num ∧ Sm _ ((r * s).den : Int)
    rw [← rat_mul]
    exact divInt_sm (rat_den_mul r s) (sx.1.mul sy.1) (sx.2.mul sy.2)
  · exact sm_ok hk h (by (first | lia | omega)) _
theorem ndiv_sm {m : Nat} (hk : KindOk k) (hx : x.ok k) (hy : y.ok k) (ne : y ≠ nnum k 0) (sx : nsm m x) (sy : nsm m y) (hm : 7 ≤ m) : nsm (m + m) (ndiv k x y) := by
  rcases ok_pair hx hy with ⟨h, r, s, rfl, rfl⟩ | ⟨h, i, j, rfl, rfl, _⟩
  · subst h
    have s0 : s ≠ 0 := fun z => ne (by rw [z]; rfl)
    show Sm _ (r / s).num ∧ Sm _ ((r / s).den : Int)
    rw [← rat_div]
    exact divInt_sm (Int.mul_ne_zero (den_ne r) (num_ne s0)) (sx.1.mul sy.2) (sx.2.mul sy.1)
  · exact sm_ok hk h (by (first | lia | omega)) _
end
end L2

namespace L2
open PySem PySem.Spec PyProof.Rows Nm
/-! ### pairs of lists -/
section
variable {α β : Type} {R S : α → β → Prop}
theorem pd_len : ∀ {xs : List α} {ys : List β}, Paired R xs ys → xs.length = ys.length
  | _, _, .nil => rfl
  | _, _, .cons _ t => congrArg (· + 1) (pd_len t)
theorem pd_imp (f : ∀ a b, R a b → S a b) : ∀ {xs : List α} {ys : List β}, Paired R xs ys → Paired S xs ys
  | _, _, .nil => .nil
  | _, _, .cons r t => .cons (f _ _ r) (pd_imp f t)
theorem pd_app : ∀ {xs xs' : List α} {ys ys' : List β}, Paired R xs ys → Paired R xs' ys' → Paired R (xs ++ xs') (ys ++ ys')
  | _, _, _, _, .nil, s => s
  | _, _, _, _, .cons r t, s => .cons r (pd_app t s)
theorem pd_snoc {xs : List α} {ys : List β} {a : α} {b : β} (h : Paired R xs ys) (r : R a b) : Paired R (xs ++ [a]) (ys ++ [b]) := pd_app h (.cons r .nil)
theorem pd_left : ∀ {xs : List α} {ys : List β} {i : Nat} {a : α}, Paired R xs ys → xs[i]? = some a → ∃ b, ys[i]? = some b ∧ R a b
  | _, _, _, _, .nil, e => by simp at e
  | _, _, 0, _, .cons r _, e => by simp at e; subst e; exact ⟨_, rfl, r⟩
  | _, _, i + 1, a, .cons _ t, e => by
    obtain ⟨b, h1, h2⟩ := pd_left (i := i) (a := a) t (by simpa using e)
    exact ⟨b, by simpa using h1, h2⟩
theorem pd_right : ∀ {xs : List α} {ys : List β} {i : Nat} {b : β}, Paired R xs ys → ys[i]? = some b → ∃ a, xs[i]? = some a ∧ R a b
  | _, _, _, _, .nil, e => by simp at e
  | _, _, 0, _, .cons r _, e => by simp at e; subst e; exact ⟨_, rfl, r⟩
  | _, _, i + 1, b, .cons _ t, e => by
    obtain ⟨a, h1, h2⟩ := pd_right (i := i) (b := b) t (by simpa using e)
    exact ⟨a, by simpa using h1, h2⟩
theorem pd_mem : ∀ {xs : List α} {ys : List β} {b : β}, Paired R xs ys → b ∈ ys → ∃ a ∈ xs, R a b
  | _, _, _, .nil, e => nomatch e
  | _, _, b, .cons r t, e => by
    rcases List.mem_cons.mp e with rfl | e
    · exact ⟨_, List.mem_cons_self, r⟩
    · obtain ⟨a, h1, h2⟩ := pd_mem t e
      exact ⟨a, List.mem_cons_of_mem _ h1, h2⟩
end
theorem take_snoc {α : Type} {l : List α} {i : Nat} {x : α} (h : l[i]? = some x) : l.take (i + 1) = l.take i ++ [x] := by
  obtain ⟨hi, e⟩ := List.getElem?_eq_some_iff.mp h
  rw [List.take_succ_eq_append_getElem hi, e]
/-! ### rows and tables of numbers -/
noncomputable def RowAt (H : Hp) (xs : List Nb) (a : Addr) : Prop := ∃ vs, H a = some (.lst vs) ∧ Paired (RN H) xs vs
noncomputable def TabAt (H : Hp) (M : List (List Nb)) (top : Addr) (ras : List Addr) : Prop := H top = some (.lst (ras.map V.ref)) ∧ Paired (RowAt H) M ras
theorem pd_rn {H H' : Hp} (g : Same H H') {xs : List Nb} {vs : List V} (h : Paired (RN H) xs vs) : Paired (RN H') xs vs := pd_imp (fun _ _ r => r.mono g) h
theorem RowAt.mono {H H' : Hp} {xs : List Nb} {a : Addr} (h : RowAt H xs a) (g : Same H H') : RowAt H' xs a :=
  let ⟨vs, h1, h2⟩ := h
  ⟨vs, g _ _ h1, pd_rn g h2⟩
theorem TabAt.mono {H H' : Hp} {M : List (List Nb)} {top : Addr} {ras : List Addr} (h : TabAt H M top ras) (g : Same H H') : TabAt H' M top ras := ⟨g _ _ h.1, pd_imp (fun _ _ r => r.mono g) h.2⟩
theorem TabAt.row {H : Hp} {M : List (List Nb)} {top : Addr} {ras : List Addr} {i : Nat} {v : V} (h : TabAt H M top ras) (e : (ras.map V.ref)[i]? = some v) : ∃ xs a, M[i]? = some xs ∧ ras[i]? = some a ∧ v = .ref a ∧ RowAt H xs a := by
  rw [List.getElem?_map] at e
  obtain ⟨a, ha, rfl⟩ := Option.map_eq_some_iff.mp e
  obtain ⟨xs, hx, r⟩ := pd_right h.2 ha
  exact ⟨xs, a, hx, ha, rfl, r⟩
/-- as data -/
noncomputable def rowD (xs : List Nb) : PyData := .list (xs.map toD)
noncomputable def tabD (M : List (List Nb)) : PyData := .list (M.map rowD)
theorem rps_row {H : Hp} : ∀ {xs : List Nb} {vs : List V}, Paired (RN H) xs vs → Rps H (xs.map toD) vs
  | _, _, .nil => by simp [Rps]
  | _, _, .cons r t => by
    simp only [List.map_cons, Rps]
    exact ⟨_, _, rfl, r, rps_row t⟩
theorem RowAt.rp {H : Hp} {xs : List Nb} {a : Addr} (h : RowAt H xs a) : Rp H (rowD xs) (.ref a) := by
  obtain ⟨vs, h1, h2⟩ := h
  simp only [rowD, Rp]
  exact ⟨a, vs, rfl, h1, rps_row h2⟩
theorem rps_rows {H : Hp} : ∀ {M : List (List Nb)} {ras : List Addr}, Paired (RowAt H) M ras → Rps H (M.map rowD) (ras.map V.ref)
  | _, _, .nil => by simp [Rps]
  | _, _, .cons r t => by
    simp only [List.map_cons, Rps]
    exact ⟨_, _, rfl, r.rp, rps_rows t⟩
theorem TabAt.rp {H : Hp} {M : List (List Nb)} {top : Addr} {ras : List Addr} (h : TabAt H M top ras) : Rp H (tabD M) (.ref top) := by
  simp only [tabD, Rp]
  exact ⟨top, _, rfl, h.1, rps_rows h.2⟩
theorem layAll_map {α : Type} (f : α → PyData) (h : ∀ x, (f x).canLay0 = true) : ∀ l : List α, PyData.canLayAll0 (l.map f) = true
  | [] => rfl
  | x :: r => by
    show ((f x).canLay0 && PyData.canLayAll0 (r.map f)) = true
    rw [h x, layAll_map f h r]; rfl
theorem depthAll_map {α : Type} (f : α → PyData) (n : Nat) (h : ∀ x, (f x).depth ≤ n) : ∀ l : List α, PyData.depthAll (l.map f) ≤ n
  | [] => Nat.zero_le _
  | x :: r => by
    show max (f x).depth (PyData.depthAll (r.map f)) ≤ n
    exact Nat.max_le.mpr ⟨h x, depthAll_map f n h r⟩
theorem rowD_lay (xs : List Nb) : (rowD xs).canLay0 = true := layAll_map toD toD_lay xs
theorem rowD_depth (xs : List Nb) : (rowD xs).depth ≤ 2 := Nat.succ_le_succ (depthAll_map toD 1 toD_depth xs)
theorem tabD_lay (M : List (List Nb)) : (tabD M).canLay0 = true := layAll_map rowD rowD_lay M
theorem tabD_depth (M : List (List Nb)) : (tabD M).depth ≤ 3 := Nat.succ_le_succ (depthAll_map rowD 2 rowD_depth M)
theorem eqvAll_map {α : Type} (f : α → PyData) (h : ∀ x, PyData.eqv (f x) (f x) = true) : ∀ l : List α, PyData.eqvAll (l.map f) (l.map f) = true
  | [] => rfl
  | x :: r => by
    show (PyData.eqv (f x) (f x) && PyData.eqvAll (r.map f) (r.map f)) = true
    rw [h x, eqvAll_map f h r]; rfl
theorem toD_self (x : Nb) : PyData.eqv (toD x) (toD x) = true := by rw [toD_eqv]; simp
theorem rowD_self (xs : List Nb) : PyData.eqv (rowD xs) (rowD xs) = true := eqvAll_map toD toD_self xs
theorem tabD_self (M : List (List Nb)) : PyData.eqv (tabD M) (tabD M) = true := eqvAll_map rowD rowD_self M
/-! ### the walks of a comprehension, by an invariant -/
/-- one turn on -/
noncomputable def Nxt (n i : Nat) (J : Prop) : Prop := ∃ m', m' < n - i ∧ m' = n - (i + 1) ∧ i + 1 ≤ n ∧ J
theorem nxt {n i : Nat} {J : Prop} (h : i < n) (j : J) : Nxt n i J := ⟨n - (i + 1), by (first | lia | omega), rfl, h, j⟩
section
variable {K : PySem.W.Frag} {g : TG} {tt : TT} {te : TE} {R : List V → Hp → Prop} {H : Hp} {σb : St}
theorem comp_list {a : Addr} {xs : List V} (J : Nat → List V → Hp → Prop) (h0 : J 0 [] H) (hl : ∀ (i : Nat) (ys : List V) (H' : Hp), i ≤ xs.length → J i ys H' → SqL K H' a xs ∧ ys.length < sizeLine)
    (hs : ∀ (i : Nat) (x : V) (ys : List V) (H' : Hp), xs[i]? = some x → i < xs.length → J i ys H' → g x σb H' fun σ2 H2 => tt σ2 H2 fun b H3 => if b = true then te σ2 H3 fun y H4 => Nxt xs.length i (J (i + 1) (ys ++ [y]) H4) else Nxt xs.length i (J (i + 1) ys H3))
    (hd : ∀ (ys : List V) (H' : Hp), J xs.length ys H' → R ys H') :
    ∃ W : Nat → Nat → List V → Hp → Prop, (∃ m, W 0 m [] H) ∧ ∀ i m ys H, W i m ys H →
      ((Itl K a).stop i H ∧ ys.length ≤ sizeLine ∧ R ys H) ∨
      ((Itl K a).go i H ∧ ys.length < sizeLine ∧ ∀ x H', (Itl K a).yld i H x H' → g x σb H' fun σ2 H2 => tt σ2 H2 fun b H3 => if b = true then te σ2 H3 fun y H4 => ∃ m', m' < m ∧ W (i + 1) m' (ys ++ [y]) H4 else ∃ m', m' < m ∧ W (i + 1) m' ys H3) := by
  refine ⟨fun i m ys H => m = xs.length - i ∧ i ≤ xs.length ∧ J i ys H, ⟨xs.length, by simp, Nat.zero_le _, h0⟩, ?_⟩
  rintro i m ys H1 ⟨rfl, hi, j⟩
  obtain ⟨q, hz⟩ := hl i ys H1 hi j
  by_cases hlt : i < xs.length
  · refine .inr ⟨⟨xs, xs[i], q, by simp [hlt]⟩, hz, fun x H' y => ?_⟩
    obtain ⟨e, y⟩ := y
    subst e
    exact hs i x ys _ (y xs q) hlt j
  · have e : i = xs.length := by (first | lia | omega)
    subst e
    exact .inl ⟨⟨xs, q, Nat.le_refl _⟩, Nat.le_of_lt hz, hd ys H1 j⟩
theorem comp_range {lo : Int} {n : Nat} (J : Nat → List V → Hp → Prop) (h0 : J 0 [] H) (hl : ∀ (i : Nat) (ys : List V) (H' : Hp), i ≤ n → J i ys H' → ys.length < sizeLine)
    (hs : ∀ (i : Nat) (ys : List V) (H' : Hp), i < n → J i ys H' → g (.int (lo + i)) σb H' fun σ2 H2 => tt σ2 H2 fun b H3 => if b = true then te σ2 H3 fun y H4 => Nxt n i (J (i + 1) (ys ++ [y]) H4) else Nxt n i (J (i + 1) ys H3))
    (hd : ∀ (ys : List V) (H' : Hp), J n ys H' → R ys H') :
    ∃ W : Nat → Nat → List V → Hp → Prop, (∃ m, W 0 m [] H) ∧ ∀ i m ys H, W i m ys H →
      ((Itr lo n).stop i H ∧ ys.length ≤ sizeLine ∧ R ys H) ∨
      ((Itr lo n).go i H ∧ ys.length < sizeLine ∧ ∀ x H', (Itr lo n).yld i H x H' → g x σb H' fun σ2 H2 => tt σ2 H2 fun b H3 => if b = true then te σ2 H3 fun y H4 => ∃ m', m' < m ∧ W (i + 1) m' (ys ++ [y]) H4 else ∃ m', m' < m ∧ W (i + 1) m' ys H3) := by
  refine ⟨fun i m ys H => m = n - i ∧ i ≤ n ∧ J i ys H, ⟨n, by simp, Nat.zero_le _, h0⟩, ?_⟩
  rintro i m ys H1 ⟨rfl, hi, j⟩
  have hz := hl i ys H1 hi j
  by_cases hlt : i < n
  · refine .inr ⟨hlt, hz, fun x H' y => ?_⟩
    obtain ⟨e, y⟩ := y
    subst e y
    exact hs i ys _ hlt j
  · have e : i = n := by (first | lia | omega)
    subst e
    exact .inl ⟨Nat.le_refl _, Nat.le_of_lt hz, hd ys H1 j⟩
/-- two lists of one length walked together -/
theorem comp_zip {a b : Addr} {xs zs : List V} (he : xs.length = zs.length) (J : Nat → List V → Hp → Prop) (h0 : J 0 [] H) (hl : ∀ (i : Nat) (ys : List V) (H' : Hp), i ≤ xs.length → J i ys H' → SqL K H' a xs ∧ SqL K H' b zs ∧ ys.length < sizeLine)
    (hs : ∀ (i : Nat) (x z : V) (T : Addr) (ys : List V) (H' : Hp), xs[i]? = some x → zs[i]? = some z → i < xs.length → H' T = none → J i ys H' → g (.ref T) σb (upd H' T (.tup [x, z])) fun σ2 H2 => tt σ2 H2 fun b H3 => if b = true then te σ2 H3 fun y H4 => Nxt xs.length i (J (i + 1) (ys ++ [y]) H4) else Nxt xs.length i (J (i + 1) ys H3))
    (hd : ∀ (ys : List V) (H' : Hp), J xs.length ys H' → R ys H') :
    ∃ W : Nat → Nat → List V → Hp → Prop, (∃ m, W 0 m [] H) ∧ ∀ i m ys H, W i m ys H →
      ((Itz K a b).stop i H ∧ ys.length ≤ sizeLine ∧ R ys H) ∨
      ((Itz K a b).go i H ∧ ys.length < sizeLine ∧ ∀ x H', (Itz K a b).yld i H x H' → g x σb H' fun σ2 H2 => tt σ2 H2 fun b H3 => if b = true then te σ2 H3 fun y H4 => ∃ m', m' < m ∧ W (i + 1) m' (ys ++ [y]) H4 else ∃ m', m' < m ∧ W (i + 1) m' ys H3) := by
  refine ⟨fun i m ys H => m = xs.length - i ∧ i ≤ xs.length ∧ J i ys H, ⟨xs.length, by simp, Nat.zero_le _, h0⟩, ?_⟩
  rintro i m ys H1 ⟨rfl, hi, j⟩
  obtain ⟨q1, q2, hz⟩ := hl i ys H1 hi j
  by_cases hlt : i < xs.length
  · refine .inr ⟨⟨xs, zs, xs[i], zs[i]'(by (first | lia | omega)), q1, q2, by simp [hlt], by simp [show i < zs.length by (first | lia | omega)]⟩, hz, fun x H' y => ?_⟩
    obtain ⟨T, u, v, rfl, hT, rfl, y1, y2⟩ := y
    exact hs i u v T ys _ (y1 xs q1) (y2 zs q2) hlt hT j
  · have e : i = xs.length := by (first | lia | omega)
    subst e
    exact .inl ⟨⟨xs, zs, q1, q2, .inl (Nat.le_refl _)⟩, Nat.le_of_lt hz, hd ys H1 j⟩
end
/-- a for over two lists of one length -/
theorem for_zip {K : PySem.W.Frag} {a b : Addr} {xs zs : List V} {g : TG} {tb : TS} {D : Ends} {σ : St} {H : Hp} (he : xs.length = zs.length) (Pv : Nat → St → Hp → Prop) (h0 : Pv 0 σ H) (hl : ∀ i σ H, i ≤ xs.length → Pv i σ H → SqL K H a xs ∧ SqL K H b zs)
    (hs : ∀ (i : Nat) (x z : V) (T : Addr) (σ : St) (H : Hp), xs[i]? = some x → zs[i]? = some z → H T = none → Pv i σ H → g (.ref T) σ (upd H T (.tup [x, z])) fun σ2 H2 => tb { D with nx := Pv (i + 1), ct := Pv (i + 1), bk := D.nx } σ2 H2) (hd : ∀ σ H, Pv xs.length σ H → D.nx σ H) :
    ∃ W : Nat → Nat → St → Hp → Prop, (∃ m, W 0 m σ H) ∧ ∀ i m σ H, W i m σ H →
      ((Itz K a b).stop i H ∧ D.nx σ H) ∨ ((Itz K a b).go i H ∧ ∃ N : St → Hp → Prop, (∀ σ' H', N σ' H' → ∃ m', m' < m ∧ W (i + 1) m' σ' H') ∧ ∀ x H', (Itz K a b).yld i H x H' → g x σ H' fun σ2 H2 => tb { D with nx := N, ct := N, bk := D.nx } σ2 H2) := by
  refine ⟨fun i m σ H => m = xs.length - i ∧ i ≤ xs.length ∧ Pv i σ H, ⟨xs.length, by simp, Nat.zero_le _, h0⟩, ?_⟩
  rintro i m σ H ⟨rfl, hi, p⟩
  obtain ⟨q1, q2⟩ := hl i σ H hi p
  by_cases hlt : i < xs.length
  · refine .inr ⟨⟨xs, zs, xs[i], zs[i]'(by (first | lia | omega)), q1, q2, by simp [hlt], by simp [show i < zs.length by (first | lia | omega)]⟩, Pv (i + 1), fun σ' H' p' => ⟨xs.length - (i + 1), by (first | lia | omega), rfl, hlt, p'⟩, fun x H' y => ?_⟩
    obtain ⟨T, u, v, rfl, hT, rfl, y1, y2⟩ := y
    exact hs i u v T σ _ (y1 xs q1) (y2 zs q2) hT p
  · have e : i = xs.length := by (first | lia | omega)
    subst e
    exact .inl ⟨⟨xs, zs, q1, q2, .inl (Nat.le_refl _)⟩, hd σ H p⟩
end L2

namespace La
open Lean.Grind
section
variable {F : Type} [Field F]
/-- sums of multiples -/
inductive Span (S : (Nat → F) → Prop) : (Nat → F) → Prop
  | zero : Span S (fun _ => 0)
  | step (c : F) {r v : Nat → F} (h : S r) (t : Span S v) : Span S (fun j => c * r j + v j)
variable {S T : (Nat → F) → Prop} {u v : Nat → F}
theorem Span.cast (h : Span S u) (e : ∀ j, u j = v j) : Span S v := by
  have : u = v := funext e
  rw [← this]; exact h
theorem Span.of (h : S v) : Span S v := (Span.step 1 h .zero).cast fun j => by grind
theorem Span.add (h : Span S u) (g : Span S v) : Span S (fun j => u j + v j) := by
  induction h with
  | zero => exact g.cast fun j => by grind
  | step c hr _ ih => exact (Span.step c hr ih).cast fun j => by grind
theorem Span.smul (c : F) (h : Span S v) : Span S (fun j => c * v j) := by
  induction h with
  | zero => exact Span.zero.cast fun j => by grind
  | step d hr _ ih => exact (Span.step (c * d) hr ih).cast fun j => by grind
theorem Span.lin (a b : F) (h : Span S u) (g : Span S v) : Span S (fun j => a * u j + b * v j) := (h.smul a).add (g.smul b)
theorem Span.bind (f : ∀ r, S r → Span T r) (h : Span S v) : Span T v := by
  induction h with
  | zero => exact .zero
  | step c hr _ ih => exact ((f _ hr).smul c).add ih
theorem Span.mono (f : ∀ r, S r → T r) (h : Span S v) : Span T v := h.bind fun r q => .of (f r q)
/-- a property that is kept by sums of multiples -/
theorem Span.all {P : (Nat → F) → Prop} (h : Span S v) (z : P fun _ => 0) (s : ∀ c r v, S r → P v → P (fun j => c * r j + v j)) : P v := by
  induction h with
  | zero => exact z
  | step c hr _ ih => exact s c _ _ hr ih
theorem Span.zero_at {i : Nat} (h : Span S v) (z : ∀ r, S r → r i = 0) : v i = 0 :=
  h.all (P := fun v => v i = 0) rfl fun c r v hr hv => by
    show c * r i + v i = 0
    rw [z r hr, hv]; grind
/-! ### reduced lists: pairs of a lead and a row -/
noncomputable abbrev Pv (F : Type) := Nat × (Nat → F)
noncomputable def Rows (P : List (Pv F)) : (Nat → F) → Prop := fun r => ∃ p ∈ P, p.2 = r
structure Rr (n : Nat) (P : List (Pv F)) : Prop where
  inc : P.Pairwise fun a b => a.1 < b.1
  lt : ∀ p ∈ P, p.1 < n
  out : ∀ p ∈ P, ∀ j, n ≤ j → p.2 j = 0
  bef : ∀ p ∈ P, ∀ j, j < p.1 → p.2 j = 0
  one : ∀ p ∈ P, p.2 p.1 = 1
  oth : ∀ p ∈ P, ∀ q ∈ P, p.1 ≠ q.1 → p.2 q.1 = 0
noncomputable def comb : List (Pv F) → (Nat → F) → Nat → F
  | [], _, _ => 0
  | p :: P, v, j => v p.1 * p.2 j + comb P v j
theorem comb_lin (c : F) (u v : Nat → F) (j : Nat) : ∀ P : List (Pv F), comb P (fun i => c * u i + v i) j = c * comb P u j + comb P v j
  | [] => by simp only [comb]; grind
  | p :: P => by simp only [comb]; rw [comb_lin c u v j P]; grind
theorem comb_zero (v : Nat → F) (j : Nat) : ∀ P : List (Pv F), (∀ p ∈ P, v p.1 * p.2 j = 0) → comb P v j = 0
  | [], _ => rfl
  | p :: P, h => by
    simp only [comb]
    rw [h p List.mem_cons_self, comb_zero v j P fun q hq => h q (List.mem_cons_of_mem _ hq)]; grind
theorem comb_span (v : Nat → F) : ∀ P : List (Pv F), Span (Rows P) (comb P v)
  | [] => Span.zero.cast fun _ => rfl
  | p :: P => by
    have h := (comb_span v P).mono (T := Rows (p :: P)) fun r ⟨q, hq, e⟩ => ⟨q, List.mem_cons_of_mem _ hq, e⟩
    exact (Span.step (v p.1) (r := p.2) (S := Rows (p :: P)) ⟨p, List.mem_cons_self, rfl⟩ h).cast fun j => rfl
/-- only one row is taken where the numbers at the leads are the unit's -/
theorem comb_pick {v : Nat → F} {p : Pv F} (j : Nat) : ∀ P : List (Pv F), P.Pairwise (fun a b => a.1 < b.1) → p ∈ P → v p.1 = 1 → (∀ q ∈ P, q.1 ≠ p.1 → v q.1 = 0) → comb P v j = p.2 j
  | [], _, h, _, _ => nomatch h
  | q :: P, inc, h, h1, h0 => by
    rw [List.pairwise_cons] at inc
    simp only [comb]
    rcases List.mem_cons.mp h with e | h
    · subst e
      rw [comb_zero v j P fun r hr => by rw [h0 r (List.mem_cons_of_mem _ hr) (Nat.ne_of_gt (inc.1 r hr))]; grind]
      rw [h1]; grind
    · rw [h0 q List.mem_cons_self (Nat.ne_of_lt (inc.1 p h)), comb_pick j P inc.2 h h1 fun r hr => h0 r (List.mem_cons_of_mem _ hr)]; grind
variable {n : Nat} {P Q : List (Pv F)}
theorem Rr.self (R : Rr n P) {p : Pv F} (h : p ∈ P) (j : Nat) : comb P p.2 j = p.2 j := comb_pick j P R.inc h (R.one p h) fun q hq ne => R.oth p h q hq (Ne.symm ne)
/-- what lies in the room is the sum of its rows by its own numbers at the leads -/
theorem Rr.comb (R : Rr n P) (h : Span (Rows P) v) : ∀ j, La.comb P v j = v j := fun j =>
  h.all (P := fun v => La.comb P v j = v j) (comb_zero _ j P fun p _ => by grind) fun c r v ⟨p, hp, e⟩ hv => by
    rw [comb_lin, hv, ← e, R.self hp j]
theorem Rr.out_of (R : Rr n P) (h : Span (Rows P) v) (j : Nat) (hj : n ≤ j) : v j = 0 := h.zero_at fun r ⟨p, hp, e⟩ => by rw [← e]; exact R.out p hp j hj
/-- the leads: the places of first numbers of what lies in the room -/
theorem Rr.lead (R : Rr n P) {i : Nat} (h : Span (Rows P) v) (z : ∀ j, j < i → v j = 0) (ne : v i ≠ 0) : ∃ p ∈ P, p.1 = i := by
  refine Classical.byContradiction fun no => ne ?_
  rw [← R.comb h i]
  refine comb_zero _ i P fun p hp => ?_
  rcases Nat.lt_trichotomy p.1 i with g | g | g
  · rw [z p.1 g]; grind
  · exact absurd ⟨p, hp, g⟩ no
  · rw [R.bef p hp i g]; grind
theorem sorted_ext : ∀ {P Q : List (Pv F)}, P.Pairwise (fun a b => a.1 < b.1) → Q.Pairwise (fun a b => a.1 < b.1) → (∀ p ∈ P, p ∈ Q) → (∀ q ∈ Q, q ∈ P) → P = Q
  | [], [], _, _, _, _ => rfl
  | [], q :: _, _, _, _, h => nomatch h q List.mem_cons_self
  | p :: _, [], _, _, h, _ => nomatch h p List.mem_cons_self
  | p :: P, q :: Q, hP, hQ, h1, h2 => by
    rw [List.pairwise_cons] at hP hQ
    have e : p = q := by
      rcases List.mem_cons.mp (h1 p List.mem_cons_self) with e | m
      · exact e
      · rcases List.mem_cons.mp (h2 q List.mem_cons_self) with e | m'
        · exact e.symm
        · have := hP.1 q m'; have := hQ.1 p m; (first | lia | omega)
    subst e
    rw [sorted_ext hP.2 hQ.2 (fun r hr => ?_) (fun r hr => ?_)]
    · rcases List.mem_cons.mp (h1 r (List.mem_cons_of_mem _ hr)) with e | m
      · subst e; exact absurd (hP.1 r hr) (Nat.lt_irrefl _)
      · exact m
    · rcases List.mem_cons.mp (h2 r (List.mem_cons_of_mem _ hr)) with e | m
      · subst e; exact absurd (hQ.1 r hr) (Nat.lt_irrefl _)
      · exact m
/-- rooms of the same rows: the leads of one are leads of the other -/
theorem Rr.leads (R : Rr n P) (R' : Rr n Q) (sub : ∀ v, Span (Rows P) v → Span (Rows Q) v) {p : Pv F} (hp : p ∈ P) : ∃ q ∈ Q, q.1 = p.1 :=
  R'.lead (sub _ (.of ⟨p, hp, rfl⟩)) (fun j hj => R.bef p hp j hj) (by rw [R.one p hp]; grind)
theorem Rr.mem_of (R : Rr n P) (R' : Rr n Q) (s1 : ∀ v, Span (Rows P) v → Span (Rows Q) v) (s2 : ∀ v, Span (Rows Q) v → Span (Rows P) v) {p : Pv F} (hp : p ∈ P) : p ∈ Q := by
  obtain ⟨q, hq, e⟩ := R.leads R' s1 hp
  have : p = q := by
    refine Prod.ext e.symm (funext fun j => ?_)
    rw [← R'.comb (s1 _ (.of ⟨p, hp, rfl⟩)) j]
    refine comb_pick j Q R'.inc hq (by rw [e]; exact R.one p hp) fun r hr ne => ?_
    obtain ⟨p', hp', e'⟩ := R'.leads R s2 hr
    rw [← e']
    exact R.oth p hp p' hp' fun z => ne (by rw [← e', ← z, e])
  rw [this]; exact hq
/-- ONE reduced list for a room -/
theorem Rr.unique (R : Rr n P) (R' : Rr n Q) (s1 : ∀ v, Span (Rows P) v → Span (Rows Q) v) (s2 : ∀ v, Span (Rows Q) v → Span (Rows P) v) : P = Q :=
  sorted_ext R.inc R'.inc (fun _ h => R.mem_of R' s1 s2 h) fun _ h => R'.mem_of R s2 s1 h
/-! ### sweeping -/
/-- behind the columns below c -/
structure Sw (n c : Nat) (O : (Nat → F) → Prop) (D : List (Pv F)) (W : List (Nat → F)) : Prop where
  inc : D.Pairwise fun a b => a.1 < b.1
  lt : ∀ p ∈ D, p.1 < c
  bef : ∀ p ∈ D, ∀ j, j < p.1 → p.2 j = 0
  one : ∀ p ∈ D, p.2 p.1 ≠ 0
  oth : ∀ p ∈ D, ∀ q ∈ D, p.1 ≠ q.1 → p.2 q.1 = 0
  nil : ∀ w ∈ W, ∀ j, j < c → w j = 0
  to : ∀ r, O r → Span (fun r => Rows D r ∨ r ∈ W) r
  fro : ∀ r, (Rows D r ∨ r ∈ W) → Span O r
theorem sw_start (n : Nat) (W : List (Nat → F)) (O : (Nat → F) → Prop) (h1 : ∀ r, O r → Span (· ∈ W) r) (h2 : ∀ r ∈ W, Span O r) : Sw n 0 O ([] : List (Pv F)) W where
  inc := .nil
  lt := fun p h => nomatch h
  bef := fun p h => nomatch h
  one := fun p h => nomatch h
  oth := fun p h => nomatch h
  nil := fun w _ j h => absurd h (Nat.not_lt_zero j)
  to := fun r h => (h1 r h).mono fun _ => .inr
  fro := fun r h => h.elim (fun ⟨p, hp, _⟩ => nomatch hp) (h2 r)
variable {c : Nat} {O : (Nat → F) → Prop} {D D' : List (Pv F)} {W W' : List (Nat → F)}
theorem Sw.skip (s : Sw n c O D W) (h : ∀ w ∈ W, w c = 0) : Sw n (c + 1) O D W :=
  { s with
    lt := fun p hp => Nat.lt_succ_of_lt (s.lt p hp)
    nil := fun w hw j hj => by
      rcases Nat.lt_succ_iff_lt_or_eq.mp hj with g | g
      · exact s.nil w hw j g
      · rw [g]; exact h w hw }
/-- r' is r cleared by the lead row: a multiple, not by nought, and one of the lead row's, and nought stands in the column -/
noncomputable def Clr (c : Nat) (l r r' : Nat → F) : Prop := (∃ a b : F, a ≠ 0 ∧ ∀ j, r' j = a * r j + b * l j) ∧ r' c = 0
theorem Clr.back {l r r' : Nat → F} (h : Clr c l r r') {S : (Nat → F) → Prop} (hl : Span S l) (hr : Span S r') : Span S r := by
  obtain ⟨⟨a, b, ha, e⟩, _⟩ := h
  exact (hr.lin (1 / a) (-b / a) hl).cast fun j => by rw [e j]; grind
theorem Clr.to {l r r' : Nat → F} (h : Clr c l r r') {S : (Nat → F) → Prop} (hl : Span S l) (hr : Span S r) : Span S r' := by
  obtain ⟨⟨a, b, ha, e⟩, _⟩ := h
  exact (hr.lin a b hl).cast fun j => by rw [e j]
/-- one column with a lead: the rows done (E by a) are cleared (E by b), and those that wait -/
theorem Sw.turn {α : Type} {E : List α} {a b : α → Pv F} (s : Sw n c O (E.map a) W) {l : Nat → F} (hl : l ∈ W) (lc : l c ≠ 0) (hf : ∀ e ∈ E, (b e).1 = (a e).1 ∧ Clr c l (a e).2 (b e).2)
    (hW : ∀ w ∈ W', (w ∈ W ∧ w c = 0) ∨ ∃ r ∈ W, Clr c l r w) (hW2 : ∀ w ∈ W, w ∈ W' ∨ w = l ∨ ∃ w' ∈ W', Clr c l w w') : Sw n (c + 1) O (E.map b ++ [(c, l)]) W' := by
  have lz : ∀ j, j < c → l j = 0 := s.nil l hl
  have ina : ∀ e ∈ E, a e ∈ E.map a := fun e he => List.mem_map.mpr ⟨e, he, rfl⟩
  have alt : ∀ e ∈ E, (a e).1 < c := fun e he => s.lt _ (ina e he)
  have fz : ∀ e ∈ E, ∀ j, j < c → (a e).2 j = 0 → (b e).2 j = 0 := fun e he j hj z => by
    obtain ⟨_, ⟨x, y, ha, q⟩, _⟩ := hf e he
    rw [q j, z, lz j hj]; grind
  have mem : ∀ q ∈ E.map b ++ [(c, l)], (∃ e ∈ E, q = b e) ∨ q = (c, l) := fun q hq => by
    rcases List.mem_append.mp hq with h | h
    · obtain ⟨p, hp, e⟩ := List.mem_map.mp h
      exact .inl ⟨p, hp, e.symm⟩
    · exact .inr (List.mem_singleton.mp h)
  have inl : (c, l) ∈ E.map b ++ [(c, l)] := List.mem_append_right _ (List.mem_singleton.mpr rfl)
  have ind : ∀ e ∈ E, b e ∈ E.map b ++ [(c, l)] := fun e he => List.mem_append_left _ (List.mem_map.mpr ⟨e, he, rfl⟩)
  refine ⟨?_, fun q hq => ?_, fun q hq j hj => ?_, fun q hq => ?_, fun q hq q' hq' ne => ?_, fun w hw j hj => ?_, fun r hr => ?_, fun r hr => ?_⟩
  · rw [List.pairwise_append]
    refine ⟨?_, List.pairwise_singleton _ _, fun x hx y hy => ?_⟩
    · have h := s.inc
      rw [List.pairwise_map] at h ⊢
      refine h.imp_of_mem fun {x y} hx hy q => ?_
      rw [(hf x hx).1, (hf y hy).1]; exact q
    · obtain ⟨p, hp, e⟩ := List.mem_map.mp hx
      rw [List.mem_singleton.mp hy, ← e, (hf p hp).1]; exact alt p hp
  · rcases mem q hq with ⟨p, hp, rfl⟩ | rfl
    · rw [(hf p hp).1]; exact Nat.lt_succ_of_lt (alt p hp)
    · exact Nat.lt_succ_self _
  · rcases mem q hq with ⟨p, hp, rfl⟩ | rfl
    · rw [(hf p hp).1] at hj
      exact fz p hp j (Nat.lt_trans hj (alt p hp)) (s.bef _ (ina p hp) j hj)
    · exact lz j hj
  · rcases mem q hq with ⟨p, hp, rfl⟩ | rfl
    · obtain ⟨e1, ⟨x, y, ha, e⟩, _⟩ := hf p hp
      rw [e1, e, lz _ (alt p hp)]
      have := s.one _ (ina p hp)
      intro z
      grind
    · exact lc
  · rcases mem q hq with ⟨p, hp, rfl⟩ | rfl
    · rcases mem q' hq' with ⟨p', hp', rfl⟩ | rfl
      · rw [(hf p hp).1, (hf p' hp').1] at ne
        rw [(hf p' hp').1]
        exact fz p hp _ (alt p' hp') (s.oth _ (ina p hp) _ (ina p' hp') ne)
      · exact (hf p hp).2.2
    · rcases mem q' hq' with ⟨p', hp', rfl⟩ | rfl
      · rw [(hf p' hp').1]; exact lz _ (alt p' hp')
      · exact absurd rfl ne
  · rcases hW w hw with ⟨h, z⟩ | ⟨r, hr, ⟨⟨x, y, ha, e⟩, z⟩⟩
    · rcases Nat.lt_succ_iff_lt_or_eq.mp hj with g | g
      · exact s.nil w h j g
      · rw [g]; exact z
    · rcases Nat.lt_succ_iff_lt_or_eq.mp hj with g | g
      · rw [e j, s.nil r hr j g, lz j g]; grind
      · rw [g]; exact z
  · refine (s.to r hr).bind fun u hu => ?_
    have L : Span (fun r => Rows (E.map b ++ [(c, l)]) r ∨ r ∈ W') l := .of (.inl ⟨_, inl, rfl⟩)
    rcases hu with ⟨q, hq, rfl⟩ | hu
    · obtain ⟨p, hp, rfl⟩ := List.mem_map.mp hq
      exact (hf p hp).2.back L (.of (.inl ⟨_, ind p hp, rfl⟩))
    · rcases hW2 u hu with h | h | ⟨w', h, k⟩
      · exact .of (.inr h)
      · rw [h]; exact L
      · exact k.back L (.of (.inr h))
  · have L : Span O l := s.fro l (.inr hl)
    rcases hr with ⟨q, hq, rfl⟩ | hr
    · rcases mem q hq with ⟨p, hp, rfl⟩ | rfl
      · exact (hf p hp).2.to L (s.fro _ (.inl ⟨_, ina p hp, rfl⟩))
      · exact L
    · rcases hW r hr with ⟨h, _⟩ | ⟨u, hu, k⟩
      · exact s.fro _ (.inr h)
      · exact k.to L (s.fro _ (.inr hu))
/-- at the end: the rows over their leads are the reduced list -/
theorem Sw.done (s : Sw n n O D W) (ow : ∀ w ∈ W, ∀ j, n ≤ j → w j = 0) (od : ∀ p ∈ D, ∀ j, n ≤ j → p.2 j = 0) : Rr n (D.map fun p => (p.1, fun j => p.2 j / p.2 p.1)) ∧
    (∀ v, Span (Rows (D.map fun p => (p.1, fun j => p.2 j / p.2 p.1))) v → Span O v) ∧ (∀ v, Span O v → Span (Rows (D.map fun p => (p.1, fun j => p.2 j / p.2 p.1))) v) := by
  have wz : ∀ w ∈ W, ∀ j, w j = 0 := fun w hw j => by
    rcases Nat.lt_or_ge j n with g | g
    · exact s.nil w hw j g
    · exact ow w hw j g
  refine ⟨⟨?_, fun q hq => ?_, fun q hq j hj => ?_, fun q hq j hj => ?_, fun q hq => ?_, fun q hq q' hq' ne => ?_⟩, fun v hv => ?_, fun v hv => ?_⟩
  · rw [List.pairwise_map]; exact s.inc
  · obtain ⟨p, hp, rfl⟩ := List.mem_map.mp hq; exact s.lt p hp
  · obtain ⟨p, hp, rfl⟩ := List.mem_map.mp hq
    show p.2 j / p.2 p.1 = 0
    rw [od p hp j hj]; grind
  · obtain ⟨p, hp, rfl⟩ := List.mem_map.mp hq
    show p.2 j / p.2 p.1 = 0
    rw [s.bef p hp j hj]; grind
  · obtain ⟨p, hp, rfl⟩ := List.mem_map.mp hq
    show p.2 p.1 / p.2 p.1 = 1
    have := s.one p hp
    grind
  · obtain ⟨p, hp, rfl⟩ := List.mem_map.mp hq
    obtain ⟨p', hp', rfl⟩ := List.mem_map.mp hq'
    show p.2 p'.1 / p.2 p.1 = 0
    rw [s.oth p hp p' hp' ne]; grind
  · refine hv.bind fun r ⟨q, hq, e⟩ => ?_
    obtain ⟨p, hp, rfl⟩ := List.mem_map.mp hq
    rw [← e]
    exact ((s.fro p.2 (.inl ⟨p, hp, rfl⟩)).smul (1 / p.2 p.1)).cast fun j => by grind
  · refine (hv.bind s.to).bind fun r hr => ?_
    rcases hr with ⟨p, hp, rfl⟩ | hr
    · have := s.one p hp
      have h : Span (Rows (D.map fun p => (p.1, fun j => p.2 j / p.2 p.1))) (fun j => p.2 j / p.2 p.1) := Span.of ⟨_, List.mem_map.mpr ⟨p, hp, rfl⟩, rfl⟩
      exact (h.smul (p.2 p.1)).cast fun j => by grind
    · exact Span.zero.cast fun j => (wz r hr j).symm
end
end La

namespace La
open Lean.Grind Nm
/-- a whole number, in a ring -/
noncomputable def ι {F : Type} [CommRing F] (w : Int) : F := (Ring.intCast : IntCast F).intCast w
section
variable {F : Type} [CommRing F]
theorem ι_add (x y : Int) : (ι (x + y) : F) = ι x + ι y := Ring.intCast_add x y
theorem ι_mul (x y : Int) : (ι (x * y) : F) = ι x * ι y := Ring.intCast_mul x y
theorem ι_sub (x y : Int) : (ι (x - y) : F) = ι x - ι y := Ring.intCast_sub x y
theorem ι_zero : (ι 0 : F) = 0 := Ring.intCast_zero
theorem ι_one : (ι 1 : F) = 1 := Ring.intCast_one
end
/-- a field whose numbers are those of the kind -/
structure Kf (k : Int) (F : Type) [Field F] where
  to : Nb → F
  of : F → Nb
  ok : ∀ x, (of x).ok k
  to_of : ∀ x, to (of x) = x
  of_to : ∀ x, x.ok k → of (to x) = x
  add : ∀ {x y}, x.ok k → y.ok k → to (nadd k x y) = to x + to y
  sub : ∀ {x y}, x.ok k → y.ok k → to (nsub k x y) = to x - to y
  mul : ∀ {x y}, x.ok k → y.ok k → to (nmul k x y) = to x * to y
  div : ∀ {x y}, x.ok k → y.ok k → y ≠ nnum k 0 → to (ndiv k x y) = to x / to y
  num : ∀ w : Int, to (nnum k w) = ι w
  zero : ∀ w : Int, (ι w : F) = 0 ↔ k ∣ w
  /-- a fraction is its top over its bottom -/
  rat : ∀ r : Rat, k = 0 → to (.q r) * ι (r.den : Int) = ι r.num
  /-- a rest is its whole number -/
  rest : ∀ i : Int, k ≠ 0 → to (.z i) = ι i
noncomputable def zpw {F : Type} [CommRing F] (inv : F → F) (a : F) : Int → F
  | .ofNat n => a ^ n
  | .negSucc n => inv (a ^ (n + 1))
@[reducible] noncomputable def fieldOf {F : Type} [CommRing F] (h01 : (0 : F) ≠ 1) (hinv : ∀ a : F, ∃ b : F, (a = 0 → b = 0) ∧ (a ≠ 0 → a * b = 1)) : Field F :=
  have un : ∀ a b c : F, a * b = 1 → a * c = 1 → b = c := fun a b c h1 h2 => by
    have : b = b * (a * c) := by rw [h2]; grind
    have : c = c * (a * b) := by rw [h1]; grind
    grind
  let inv : F → F := fun a => Classical.choose (hinv a)
  have i0 : ∀ a, a = 0 → inv a = 0 := fun a => (Classical.choose_spec (hinv a)).1
  have i1 : ∀ a, a ≠ 0 → a * inv a = 1 := fun a => (Classical.choose_spec (hinv a)).2
  have ii : ∀ a, inv (inv a) = a := fun a => by
    by_cases h : a = 0
    · rw [i0 a h, i0 0 rfl, h]
    · have h' : inv a ≠ 0 := fun z => by
        have := i1 a h
        rw [z] at this
        exact h01 (by rw [← this]; grind)
      have e1 := i1 a h
      have e2 := i1 _ h'
      exact un (inv a) _ _ e2 (by rw [← e1]; grind)
  letI : Inv F := ⟨inv⟩
  letI : Div F := ⟨fun a b => a * inv b⟩
  letI : HPow F Int F := ⟨zpw inv⟩
  { zpow := ⟨zpw inv⟩
    div_eq_mul_inv := fun a b => rfl
    zero_ne_one := h01
    inv_zero := i0 0 rfl
    mul_inv_cancel := fun {a} h => i1 a h
    zpow_zero := fun a => Semiring.pow_zero a
    zpow_succ := fun a n => Semiring.pow_succ a n
    zpow_neg := fun a n => by
      show zpw inv a (-n) = inv (zpw inv a n)
      match n with
      | .ofNat 0 =>
        show a ^ 0 = inv (a ^ 0)
        rw [Semiring.pow_zero]
        have := i1 1 (Ne.symm h01)
        exact un 1 _ _ (by grind) this
      | .ofNat (m + 1) => rfl
      | .negSucc m =>
        show a ^ (m + 1) = inv (inv (a ^ (m + 1)))
        rw [ii] }
/-! fractions -/
noncomputable def kfRat : Kf 0 Rat where
  to := fun x => match x with | .q r => r | .z _ => 0
  of := .q
  ok := fun _ => rfl
  to_of := fun _ => rfl
  of_to := fun x h => by cases x with
    | q r => rfl
    | z i => exact absurd rfl h.1
  add := fun {x y} hx hy => by
    cases x with
    | z i => exact absurd rfl hx.1
    | q r => cases y with
      | z i => exact absurd rfl hy.1
      | q s => rfl
  sub := fun {x y} hx hy => by
    cases x with
    | z i => exact absurd rfl hx.1
    | q r => cases y with
      | z i => exact absurd rfl hy.1
      | q s => rfl
  mul := fun {x y} hx hy => by
    cases x with
    | z i => exact absurd rfl hx.1
    | q r => cases y with
      | z i => exact absurd rfl hy.1
      | q s => rfl
  div := fun {x y} hx hy _ => by
    cases x with
    | z i => exact absurd rfl hx.1
    | q r => cases y with
      | z i => exact absurd rfl hy.1
      | q s => rfl
  num := fun w => rfl
  zero := fun w => by
    rw [Int.zero_dvd]
    exact Rat.intCast_eq_zero_iff
  rat := fun r _ => by
    show r * ((r.den : Int) : Rat) = ((r.num : Int) : Rat)
    have e : Rat.divInt r.num r.den * Rat.divInt (r.den : Int) 1 = Rat.divInt r.num 1 := by
      rw [Rat.divInt_mul_divInt, Rat.divInt_eq_divInt_iff (by have := den_ne r; (first | lia | omega)) (by decide)]
      grind
    have o : ∀ a : Int, Rat.divInt a 1 = (a : Rat) := fun a => by
      rw [Rat.divInt_eq_div]
      show (a : Rat) / 1 = a
      grind
    rw [Rat.num_divInt_den, o, o] at e
    exact e
  rest := fun i h => absurd rfl h
theorem field_div {F : Type} [Field F] {a b z : F} (h : z * b = 1) : a * z = a / b := by
  have n : b ≠ 0 := fun e => by rw [e] at h; grind
  grind
/-! rests -/
section
variable {k : Int} {p : Nat} [NeZero p]
theorem fin_p (hp : (p : Int) = k) : (ι k : Fin p) = 0 := by
  subst hp
  show Fin.intCast (p : Int) = 0
  unfold Fin.intCast
  rw [if_pos (Int.natCast_nonneg p)]
  refine Fin.ext ?_
  show (p : Int).natAbs % p = 0 % p
  simp
theorem fin_dvd (hp : (p : Int) = k) {w : Int} (h : k ∣ w) : (ι w : Fin p) = 0 := by
  obtain ⟨c, rfl⟩ := h
  rw [ι_mul, fin_p hp]; grind
theorem fin_congr (hp : (p : Int) = k) {a b : Int} (h : k ∣ a - b) : (ι a : Fin p) = ι b := by
  have := fin_dvd hp h
  rw [ι_sub] at this
  grind
theorem fin_val (hp : (p : Int) = k) {i : Int} (h0 : 0 ≤ i) (h1 : i < k) : ((ι i : Fin p).val : Int) = i := by
  show ((Fin.intCast i : Fin p).val : Int) = i
  unfold Fin.intCast
  rw [if_pos h0]
  show ((i.natAbs % p : Nat) : Int) = i
  rw [Nat.mod_eq_of_lt (by (first | lia | omega))]; (first | lia | omega)
theorem fin_ι (x : Fin p) : (ι (x.val : Int) : Fin p) = x := by
  show (Fin.intCast (x.val : Int) : Fin p) = x
  unfold Fin.intCast
  rw [if_pos (Int.natCast_nonneg _)]
  refine Fin.ext ?_
  show (x.val : Int).natAbs % p = x.val
  rw [Int.natAbs_natCast, Nat.mod_eq_of_lt x.isLt]
theorem fin_zero (hp : (p : Int) = k) (w : Int) : (ι w : Fin p) = 0 ↔ k ∣ w := by
  refine ⟨fun h => ?_, fin_dvd hp⟩
  have k0 : 0 < k := by have := NeZero.ne p; (first | lia | omega)
  have e : (ι w : Fin p) = ι (w % k) := fin_congr hp ⟨w / k, by have := Int.emod_add_mul_ediv w k; (first | lia | omega)⟩
  have v := fin_val (p := p) hp (Int.emod_nonneg w (by (first | lia | omega))) (Int.emod_lt_of_pos w k0)
  rw [← e, h] at v
  have : w % k = 0 := by rw [← v]; rfl
  exact Int.dvd_of_emod_eq_zero this
theorem fin_inv (h : Pr k) (hp : (p : Int) = k) (a : Fin p) : ∃ b : Fin p, (a = 0 → b = 0) ∧ (a ≠ 0 → a * b = 1) := by
  by_cases z : a = 0
  · exact ⟨0, fun _ => rfl, fun n => absurd z n⟩
  · have a0 : 0 < (a.val : Int) := by
      have : a.val ≠ 0 := fun e => z (Fin.ext e)
      (first | lia | omega)
    obtain ⟨x, x0, xk, hx⟩ := inv_exists h a0 (by have := a.isLt; (first | lia | omega))
    refine ⟨ι x, fun e => absurd e z, fun _ => ?_⟩
    have := fin_congr (p := p) hp hx
    rw [ι_mul, fin_ι, ι_one] at this
    grind
theorem fin_01 (h : Pr k) (hp : (p : Int) = k) : (0 : Fin p) ≠ 1 := fun e => by
  have : (ι 1 : Fin p) = 0 := by rw [ι_one]; exact e.symm
  have := (fin_zero hp 1).mp this
  have := Int.le_of_dvd (by decide) this
  have := h.lo
  (first | lia | omega)
@[reducible] noncomputable def fieldFin (h : Pr k) (hp : (p : Int) = k) : Field (Fin p) := fieldOf (fin_01 h hp) (fin_inv h hp)
noncomputable def kfFin (h : Pr k) (hp : (p : Int) = k) : @Kf k (Fin p) (fieldFin h hp) :=
  letI := fieldFin h hp
  have k1 := h.lo
  have k0 : k ≠ 0 := by (first | lia | omega)
  have fm : ∀ a : Int, (ι (a.fmod k) : Fin p) = ι a := fun a => fin_congr hp (fmod_sub_dvd k a)
  { to := fun x => match x with | .q _ => 0 | .z i => ι i
    of := fun x => .z x.val
    ok := fun x => ⟨k0, Int.natCast_nonneg _, by have := x.isLt; (first | lia | omega)⟩
    to_of := fun x => fin_ι x
    of_to := fun x hx => by cases x with
      | q r => exact absurd hx k0
      | z i => exact congrArg Nb.z (fin_val hp hx.2.1 hx.2.2)
    add := fun {x y} hx hy => by
      cases x with
      | q r => exact absurd hx k0
      | z i => cases y with
        | q s => exact absurd hy k0
        | z j => exact (fm _).trans (ι_add i j)
    sub := fun {x y} hx hy => by
      cases x with
      | q r => exact absurd hx k0
      | z i => cases y with
        | q s => exact absurd hy k0
        | z j => exact (fm _).trans (ι_sub i j)
    mul := fun {x y} hx hy => by
      cases x with
      | q r => exact absurd hx k0
      | z i => cases y with
        | q s => exact absurd hy k0
        | z j => exact (fm _).trans (ι_mul i j)
    div := fun {x y} hx hy ne => by
      cases x with
      | q r => exact absurd hx k0
      | z i => cases y with
        | q s => exact absurd hy k0
        | z j =>
          have j0 : j ≠ 0 := fun z => ne (by unfold nnum; rw [if_neg k0, z, Int.zero_fmod])
          obtain ⟨x, x0, xk, hx'⟩ := inv_exists h (show 0 < j by have := hy.2.1; (first | lia | omega)) hy.2.2
          have e := fin_congr (p := p) hp hx'
          rw [ι_mul, ι_one] at e
          refine Eq.trans (b := ι i * ι x) ?_ (field_div e)
          show (ι ((i * zinv k j).fmod k) : Fin p) = ι i * ι x
          rw [fm, ι_mul, zinv_of x0 xk hx']
    num := fun w => by
      unfold nnum
      rw [if_neg k0]
      exact fm w
    zero := fin_zero hp
    rat := fun r e => absurd e k0
    rest := fun i _ => rfl }
end
/-- every kind has its field -/
theorem field_of {k : Int} (h : KindOk k) : ∃ (F : Type) (inst : Field F) (dec : DecidableEq F), Nonempty (Kf k F) := by
  rcases h with rfl | h
  · exact ⟨Rat, inferInstance, inferInstance, ⟨kfRat⟩⟩
  · have k1 := h.lo
    haveI : NeZero k.toNat := ⟨by (first | lia | omega)⟩
    have hp : ((k.toNat : Nat) : Int) = k := by (first | lia | omega)
    exact ⟨Fin k.toNat, fieldFin h hp, inferInstance, ⟨kfFin h hp⟩⟩
end La

namespace La
open Lean.Grind Nm
/-! ### rows of whole numbers -/
section
variable {k : Int} {F : Type} [Field F]
/-- a row of whole numbers in the field -/
noncomputable def fv (ws : List Int) : Nat → F := fun j => ι (ws.getD j 0)
theorem fv_out {ws : List Int} {j : Nat} (h : ws.length ≤ j) : (fv ws j : F) = 0 := by
  unfold fv
  rw [List.getD_eq_getElem?_getD, List.getElem?_eq_none h]
  exact ι_zero
/-- by a prime: rests -/
noncomputable def Nf (k : Int) (ws : List Int) : Prop := k ≠ 0 → ∀ w ∈ ws, 0 ≤ w ∧ w < k
theorem fv_zero (φ : Kf k F) {ws : List Int} (h : Nf k ws) (j : Nat) : (fv ws j : F) = 0 ↔ ws.getD j 0 = 0 := by
  unfold fv
  rw [φ.zero]
  constructor
  · intro d
    by_cases k0 : k = 0
    · rw [k0, Int.zero_dvd] at d; exact d
    · have hw : 0 ≤ ws.getD j 0 ∧ ws.getD j 0 < k := by
        rcases Nat.lt_or_ge j ws.length with g | g
        · rw [List.getD_eq_getElem?_getD, List.getElem?_eq_getElem g]
          exact h k0 _ (List.getElem_mem g)
        · rw [List.getD_eq_getElem?_getD, List.getElem?_eq_none g]
          refine ⟨Int.le_refl _, ?_⟩
          show 0 < k
          have n : 0 ≤ k := by
            rcases Int.lt_or_le k 0 with z | z
            · exfalso
              -- a kind below nought has no number
              have := φ.ok (φ.to (.z 0))
              generalize φ.of (φ.to (.z 0)) = x at this
              cases x with
              | q r => exact k0 this
              | z i => obtain ⟨_, i0, i1⟩ := this; (first | lia | omega)
            · exact z
          (first | lia | omega)
      obtain ⟨c, hc⟩ := d
      rcases Int.lt_trichotomy c 0 with g | g | g
      · have : k * c ≤ k * (-1) := Int.mul_le_mul_of_nonneg_left (by (first | lia | omega)) (by (first | lia | omega))
        (first | lia | omega)
      · rw [hc, g, Int.mul_zero]
      · have : k * 1 ≤ k * c := Int.mul_le_mul_of_nonneg_left (by (first | lia | omega)) (by (first | lia | omega))
        (first | lia | omega)
  · intro e; rw [e]; exact Int.dvd_zero k
/-- the greatest common divisor of a row -/
noncomputable def gcdL (ws : List Int) : Nat := ws.foldl (fun d w => Nat.gcd d w.natAbs) 0
theorem gcd_fold_dvd : ∀ (ws : List Int) (d : Nat), (ws.foldl (fun d w => Nat.gcd d w.natAbs) d ∣ d) ∧ ∀ w ∈ ws, ((ws.foldl (fun d w => Nat.gcd d w.natAbs) d : Nat) : Int) ∣ w
  | [], d => ⟨Nat.dvd_refl d, fun w h => nomatch h⟩
  | x :: ws, d => by
    obtain ⟨h1, h2⟩ := gcd_fold_dvd ws (Nat.gcd d x.natAbs)
    refine ⟨Nat.dvd_trans h1 (Nat.gcd_dvd_left _ _), fun w hw => ?_⟩
    rcases List.mem_cons.mp hw with e | hw
    · rw [e]
      exact Int.ofNat_dvd_left.mpr (Nat.dvd_trans h1 (Nat.gcd_dvd_right _ _))
    · exact h2 w hw
theorem gcdL_dvd {ws : List Int} {w : Int} (h : w ∈ ws) : ((gcdL ws : Nat) : Int) ∣ w := (gcd_fold_dvd ws 0).2 w h
noncomputable def easedM (k : Int) (ws : List Int) : List Int := if k ≠ 0 then ws.map (·.fmod k) else if gcdL ws = 0 then ws else ws.map fun w => w.fdiv ((gcdL ws : Nat) : Int)
theorem easedM_len (ws : List Int) : (easedM k ws).length = ws.length := by
  unfold easedM; split
  · exact List.length_map _
  · split
    · rfl
    · exact List.length_map _
theorem easedM_nf (k0 : 0 ≤ k) (ws : List Int) : Nf k (easedM k ws) := fun h w hw => by
  unfold easedM at hw
  rw [if_pos h] at hw
  obtain ⟨x, _, rfl⟩ := List.mem_map.mp hw
  exact ⟨Int.fmod_nonneg_of_pos x (by (first | lia | omega)), Int.fmod_lt_of_pos x (by (first | lia | omega))⟩
theorem getD_map {α β : Type} (f : α → β) (a : α) (b : β) (h : f a = b) (l : List α) (j : Nat) : (l.map f).getD j b = f (l.getD j a) := by
  rw [List.getD_eq_getElem?_getD, List.getD_eq_getElem?_getD, List.getElem?_map, ← h]
  cases l[j]? <;> rfl
theorem fdiv_dvd {w d : Int} (h : d ∣ w) (hd : d ≠ 0) : w.fdiv d * d = w := by
  rw [Int.fdiv_eq_ediv_of_dvd h]; exact Int.ediv_mul_cancel h
theorem easedM_fv (φ : Kf k F) (ws : List Int) : ∃ a : F, a ≠ 0 ∧ ∀ j, fv (easedM k ws) j = a * fv ws j := by
  have one : (1 : F) ≠ 0 := fun e => Field.zero_ne_one e.symm
  unfold easedM
  split
  · rename_i h
    refine ⟨1, one, fun j => ?_⟩
    unfold fv
    rw [getD_map (fun w : Int => w.fmod k) 0 0 (Int.zero_fmod k)]
    have d := (φ.zero _).mpr (fmod_sub_dvd k (ws.getD j 0))
    rw [ι_sub] at d
    grind
  · rename_i h
    have k0 : k = 0 := Classical.byContradiction fun z => h z
    split
    · exact ⟨1, one, fun j => by grind⟩
    · rename_i g
      have gn : (ι ((gcdL ws : Nat) : Int) : F) ≠ 0 := fun z => by
        rw [φ.zero, k0, Int.zero_dvd] at z; (first | lia | omega)
      refine ⟨1 / ι ((gcdL ws : Nat) : Int), fun z => ?_, fun j => ?_⟩
      · have : ι ((gcdL ws : Nat) : Int) * (1 / ι ((gcdL ws : Nat) : Int)) = (1 : F) := by grind
        rw [z] at this
        exact one (by rw [← this]; grind)
      · unfold fv
        rw [getD_map (fun w : Int => w.fdiv ((gcdL ws : Nat) : Int)) 0 0 (Int.zero_fdiv _)]
        have dv : ((gcdL ws : Nat) : Int) ∣ ws.getD j 0 := by
          rcases Nat.lt_or_ge j ws.length with z | z
          · rw [List.getD_eq_getElem?_getD, List.getElem?_eq_getElem z]; exact gcdL_dvd (List.getElem_mem z)
          · rw [List.getD_eq_getElem?_getD, List.getElem?_eq_none z]; exact Int.dvd_zero _
        have e := fdiv_dvd dv (by (first | lia | omega))
        have e2 : (ι ((ws.getD j 0).fdiv ((gcdL ws : Nat) : Int)) : F) * ι ((gcdL ws : Nat) : Int) = ι (ws.getD j 0) := by rw [← ι_mul, e]
        grind
noncomputable def mixed (row lead : List Int) (c : Nat) : List Int := List.zipWith (fun l r => lead.getD c 0 * l - row.getD c 0 * r) row lead
noncomputable def clearedM (k : Int) (lead : List Int) (c : Nat) (row : List Int) : List Int := if row.getD c 0 = 0 then row else easedM k (mixed row lead c)
theorem mixed_len {row lead : List Int} (h : row.length = lead.length) (c : Nat) : (mixed row lead c).length = row.length := by
  unfold mixed; rw [List.length_zipWith]; (first | lia | omega)
theorem clearedM_len {row lead : List Int} (h : row.length = lead.length) (c : Nat) : (clearedM k lead c row).length = row.length := by
  unfold clearedM; split
  · rfl
  · rw [easedM_len, mixed_len h]
theorem mixed_getD {row lead : List Int} (h : row.length = lead.length) (c j : Nat) : (mixed row lead c).getD j 0 = lead.getD c 0 * row.getD j 0 - row.getD c 0 * lead.getD j 0 := by
  rcases Nat.lt_or_ge j row.length with g | g
  · have g2 : j < lead.length := by (first | lia | omega)
    unfold mixed
    rw [List.getD_eq_getElem?_getD, List.getElem?_zipWith, List.getElem?_eq_getElem g, List.getElem?_eq_getElem g2]
    show lead.getD c 0 * row[j] - row.getD c 0 * lead[j] = _
    simp [List.getD_eq_getElem?_getD, List.getElem?_eq_getElem g, List.getElem?_eq_getElem g2]
  · have g2 : lead.length ≤ j := by (first | lia | omega)
    have g3 : (mixed row lead c).length ≤ j := by rw [mixed_len h]; exact g
    simp [List.getD_eq_getElem?_getD, List.getElem?_eq_none g, List.getElem?_eq_none g2, List.getElem?_eq_none g3]
theorem clearedM_nf (k0 : 0 ≤ k) {row lead : List Int} (c : Nat) (h : Nf k row) : Nf k (clearedM k lead c row) := by
  unfold clearedM; split
  · exact h
  · exact easedM_nf k0 _
theorem clearedM_clr (φ : Kf k F) {row lead : List Int} (h : row.length = lead.length) {c : Nat} (lc : (fv lead c : F) ≠ 0) : Clr c (fv lead : Nat → F) (fv row) (fv (clearedM k lead c row)) := by
  unfold clearedM
  have one : (1 : F) ≠ 0 := fun e => Field.zero_ne_one e.symm
  split
  · rename_i z
    refine ⟨⟨1, 0, one, fun j => by grind⟩, ?_⟩
    show ι (row.getD c 0) = 0
    rw [z]; exact ι_zero
  · obtain ⟨a, ha, e⟩ := easedM_fv φ (mixed row lead c)
    have m : ∀ j, (fv (mixed row lead c) j : F) = fv lead c * fv row j - fv row c * fv lead j := fun j => by
      unfold fv
      rw [mixed_getD h, ι_sub, ι_mul, ι_mul]
    refine ⟨⟨a * fv lead c, -(a * fv row c), fun z => ?_, fun j => ?_⟩, ?_⟩
    · grind
    · rw [e j, m j]; grind
    · rw [e c, m c]; grind
/-! sweeping -/
noncomputable def swTurn (k : Int) (c : Nat) (s : List (Nat × List Int) × List (List Int)) : List (Nat × List Int) × List (List Int) :=
  match s.2.filter (fun r => decide (r.getD c 0 ≠ 0)) with
  | [] => s
  | l :: rest => (s.1.map (fun p => (p.1, clearedM k l c p.2)) ++ [(c, l)], s.2.filter (fun r => decide (r.getD c 0 = 0)) ++ rest.map (clearedM k l c))
noncomputable def swTo (k : Int) (rows : List (List Int)) : Nat → List (Nat × List Int) × List (List Int)
  | 0 => ([], rows.map (easedM k))
  | c + 1 => swTurn k c (swTo k rows c)
/-- rows of one width, in their form -/
structure Fine (k : Int) (n : Nat) (s : List (Nat × List Int) × List (List Int)) : Prop where
  dl : ∀ p ∈ s.1, p.2.length = n
  wl : ∀ w ∈ s.2, w.length = n
  df : ∀ p ∈ s.1, Nf k p.2
  wf : ∀ w ∈ s.2, Nf k w
theorem Fine.turn {n c : Nat} {s : List (Nat × List Int) × List (List Int)} (k0 : 0 ≤ k) (h : Fine k n s) : Fine k n (swTurn k c s) := by
  unfold swTurn
  cases e : s.2.filter (fun r => decide (r.getD c 0 ≠ 0)) with
  | nil => exact h
  | cons l rest =>
    have sub : ∀ r ∈ l :: rest, r ∈ s.2 := fun r hr => by rw [← e] at hr; exact (List.mem_filter.mp hr).1
    have hl := sub l List.mem_cons_self
    refine ⟨fun p hp => ?_, fun w hw => ?_, fun p hp => ?_, fun w hw => ?_⟩
    · rcases List.mem_append.mp hp with hp | hp
      · obtain ⟨q, hq, rfl⟩ := List.mem_map.mp hp
        show (clearedM k l c q.2).length = n
        rw [clearedM_len (by rw [h.dl q hq, h.wl l hl]), h.dl q hq]
      · rw [List.mem_singleton.mp hp]; exact h.wl l hl
    · rcases List.mem_append.mp hw with hw | hw
      · exact h.wl w (List.mem_filter.mp hw).1
      · obtain ⟨q, hq, rfl⟩ := List.mem_map.mp hw
        have := h.wl q (sub q (List.mem_cons_of_mem _ hq))
        rw [clearedM_len (by rw [this, h.wl l hl]), this]
    · rcases List.mem_append.mp hp with hp | hp
      · obtain ⟨q, hq, rfl⟩ := List.mem_map.mp hp
        exact clearedM_nf k0 c (h.df q hq)
      · rw [List.mem_singleton.mp hp]; exact h.wf l hl
    · rcases List.mem_append.mp hw with hw | hw
      · exact h.wf w (List.mem_filter.mp hw).1
      · obtain ⟨q, hq, rfl⟩ := List.mem_map.mp hw
        exact clearedM_nf k0 c (h.wf q (sub q (List.mem_cons_of_mem _ hq)))
theorem Fine.to {n : Nat} {rows : List (List Int)} (k0 : 0 ≤ k) (h : ∀ r ∈ rows, r.length = n) : ∀ c, Fine k n (swTo k rows c)
  | 0 => by
    refine ⟨fun p hp => (nomatch hp), fun w hw => ?_, fun p hp => (nomatch hp), fun w hw => ?_⟩
    · obtain ⟨r, hr, rfl⟩ := List.mem_map.mp hw
      rw [easedM_len, h r hr]
    · obtain ⟨r, hr, rfl⟩ := List.mem_map.mp hw
      exact easedM_nf k0 r
  | c + 1 => (Fine.to k0 h c).turn k0
noncomputable def inF (D : List (Nat × List Int)) : List (Pv F) := D.map fun p => (p.1, fv p.2)
theorem sw_at (φ : Kf k F) (k0 : 0 ≤ k) {n : Nat} {rows : List (List Int)} (h : ∀ r ∈ rows, r.length = n) : ∀ c, Sw n c (fun v => ∃ r ∈ rows, v = (fv r : Nat → F)) (inF (swTo k rows c).1) ((swTo k rows c).2.map fv)
  | 0 => by
    refine sw_start n _ _ (fun v ⟨r, hr, e⟩ => ?_) fun v hv => ?_
    · obtain ⟨a, ha, q⟩ := easedM_fv φ r
      have hm : (fv (easedM k r) : Nat → F) ∈ (swTo k rows 0).2.map fv := List.mem_map.mpr ⟨_, List.mem_map.mpr ⟨r, hr, rfl⟩, rfl⟩
      have hs : Span (fun v => v ∈ (swTo k rows 0).2.map fv) (fv (easedM k r) : Nat → F) := .of hm
      exact (hs.smul (1 / a)).cast fun j => by rw [e, q j]; grind
    · obtain ⟨w, hw, rfl⟩ := List.mem_map.mp hv
      obtain ⟨r, hr, rfl⟩ := List.mem_map.mp hw
      obtain ⟨a, ha, q⟩ := easedM_fv φ r
      have hs : Span (fun v => ∃ r ∈ rows, v = (fv r : Nat → F)) (fv r) := .of ⟨r, hr, rfl⟩
      exact (hs.smul a).cast fun j => (q j).symm
  | c + 1 => by
    have ih := sw_at φ k0 h c
    have fine := Fine.to k0 h c
    show Sw n (c + 1) _ (inF (swTurn k c (swTo k rows c)).1) ((swTurn k c (swTo k rows c)).2.map fv)
    generalize swTo k rows c = s at ih fine
    have zr : ∀ r ∈ s.2, ((fv r c : F) = 0 ↔ r.getD c 0 = 0) := fun r hr => fv_zero φ (fine.wf r hr) c
    unfold swTurn
    cases e : s.2.filter (fun r => decide (r.getD c 0 ≠ 0)) with
    | nil =>
      refine ih.skip fun w hw => ?_
      obtain ⟨r, hr, rfl⟩ := List.mem_map.mp hw
      rw [zr r hr]
      refine Classical.byContradiction fun z => ?_
      have : r ∈ s.2.filter (fun r => decide (r.getD c 0 ≠ 0)) := List.mem_filter.mpr ⟨hr, by simpa using z⟩
      rw [e] at this
      exact nomatch this
    | cons l rest =>
      have mem : ∀ r ∈ l :: rest, r ∈ s.2 ∧ r.getD c 0 ≠ 0 := fun r hr => by
        rw [← e] at hr
        obtain ⟨h1, h2⟩ := List.mem_filter.mp hr
        exact ⟨h1, by simpa using h2⟩
      obtain ⟨hl, lz⟩ := mem l List.mem_cons_self
      have lc : (fv l c : F) ≠ 0 := fun z => lz ((zr l hl).mp z)
      have ll := fine.wl l hl
      have cl : ∀ r, r.length = n → Clr c (fv l : Nat → F) (fv r) (fv (clearedM k l c r)) := fun r hr => clearedM_clr φ (by rw [hr, ll]) lc
      show Sw n (c + 1) _ (inF (s.1.map (fun p => (p.1, clearedM k l c p.2)) ++ [(c, l)])) ((s.2.filter (fun r => decide (r.getD c 0 = 0)) ++ rest.map (clearedM k l c)).map fv)
      have e1 : (inF (s.1.map (fun p => (p.1, clearedM k l c p.2)) ++ [(c, l)]) : List (Pv F)) = s.1.map (fun p => (p.1, fv (clearedM k l c p.2))) ++ [(c, fv l)] := by
        unfold inF; rw [List.map_append, List.map_map]; rfl
      rw [e1]
      refine Sw.turn (E := s.1) (a := fun p => (p.1, fv p.2)) (b := fun p => (p.1, fv (clearedM k l c p.2))) ih (List.mem_map.mpr ⟨l, hl, rfl⟩) lc (fun p hp => ⟨rfl, cl p.2 (fine.dl p hp)⟩) (fun w hw => ?_) (fun w hw => ?_)
      · obtain ⟨r, hr, rfl⟩ := List.mem_map.mp hw
        rcases List.mem_append.mp hr with hr | hr
        · obtain ⟨h1, h2⟩ := List.mem_filter.mp hr
          exact .inl ⟨List.mem_map.mpr ⟨r, h1, rfl⟩, (zr r h1).mpr (by simpa using h2)⟩
        · obtain ⟨q, hq, rfl⟩ := List.mem_map.mp hr
          have hq2 := (mem q (List.mem_cons_of_mem _ hq)).1
          exact .inr ⟨fv q, List.mem_map.mpr ⟨q, hq2, rfl⟩, cl q (fine.wl q hq2)⟩
      · obtain ⟨r, hr, rfl⟩ := List.mem_map.mp hw
        by_cases z : r.getD c 0 = 0
        · exact .inl (List.mem_map.mpr ⟨r, List.mem_append_left _ (List.mem_filter.mpr ⟨hr, by simpa using z⟩), rfl⟩)
        · have hm : r ∈ l :: rest := by rw [← e]; exact List.mem_filter.mpr ⟨hr, by simpa using z⟩
          rcases List.mem_cons.mp hm with q | q
          · exact .inr (.inl (by rw [q]))
          · exact .inr (.inr ⟨_, List.mem_map.mpr ⟨_, List.mem_append_right _ (List.mem_map.mpr ⟨r, q, rfl⟩), rfl⟩, cl r (fine.wl r hr)⟩)
/-- the room of rows of whole numbers -/
noncomputable abbrev RmI (F : Type) [Field F] (rows : List (List Int)) : (Nat → F) → Prop := fun v => ∃ r ∈ rows, v = fv r
theorem swept_rr (φ : Kf k F) (k0 : 0 ≤ k) {n : Nat} {rows : List (List Int)} (h : ∀ r ∈ rows, r.length = n) :
    Rr n ((swTo k rows n).1.map fun p => (p.1, fun j => (fv p.2 j / fv p.2 p.1 : F))) ∧
    (∀ v, Span (Rows ((swTo k rows n).1.map fun p => (p.1, fun j => (fv p.2 j / fv p.2 p.1 : F)))) v → Span (RmI F rows) v) ∧ (∀ v, Span (RmI F rows) v → Span (Rows ((swTo k rows n).1.map fun p => (p.1, fun j => (fv p.2 j / fv p.2 p.1 : F)))) v) := by
  have s := sw_at φ k0 h n
  have fine := Fine.to k0 h n
  have d := s.done (fun w hw j hj => by
    obtain ⟨r, hr, rfl⟩ := List.mem_map.mp hw
    exact fv_out (by rw [fine.wl r hr]; exact hj)) (fun p hp j hj => by
    obtain ⟨q, hq, rfl⟩ := List.mem_map.mp hp
    exact fv_out (by rw [fine.dl q hq]; exact hj))
  have e : ((inF (swTo k rows n).1 : List (Pv F)).map fun p => (p.1, fun j => p.2 j / p.2 p.1)) = (swTo k rows n).1.map fun p => (p.1, fun j => (fv p.2 j / fv p.2 p.1 : F)) := by
    unfold inF; rw [List.map_map]; rfl
  rw [e] at d
  exact d
/-- of the rows done: the lead is the first number that is not nought -/
theorem swept_lead (φ : Kf k F) (k0 : 0 ≤ k) {n : Nat} {rows : List (List Int)} (h : ∀ r ∈ rows, r.length = n) {p : Nat × List Int} (hp : p ∈ (swTo k rows n).1) :
    p.1 < n ∧ p.2.length = n ∧ p.2.getD p.1 0 ≠ 0 ∧ ∀ j, j < p.1 → p.2.getD j 0 = 0 := by
  have s := sw_at φ k0 h n
  have fine := Fine.to k0 h n
  have hm : ((p.1, fv p.2) : Pv F) ∈ inF (swTo k rows n).1 := List.mem_map.mpr ⟨p, hp, rfl⟩
  have z := fun j => fv_zero φ (fine.df p hp) j
  exact ⟨s.lt _ hm, fine.dl p hp, fun e => s.one _ hm ((z p.1).mpr e), fun j hj => (z j).mp (s.bef _ hm j hj)⟩
end
end La

namespace La
open Lean.Grind Nm
section
variable {k : Int} {F : Type} [Field F]
/-! ### rows of numbers -/
theorem nnum_ok (h : KindOk k) (w : Int) : (nnum k w).ok k := by
  unfold nnum
  split
  · assumption
  · rename_i n
    have := h.lt
    exact ⟨n, Int.fmod_nonneg_of_pos w (by (first | lia | omega)), Int.fmod_lt_of_pos w (by (first | lia | omega))⟩
noncomputable def OkR (k : Int) (xs : List Nb) : Prop := ∀ x ∈ xs, x.ok k
noncomputable def nv (φ : Kf k F) (xs : List Nb) : Nat → F := fun j => φ.to (xs.getD j (nnum k 0))
theorem Kf.num0 (φ : Kf k F) : φ.to (nnum k 0) = 0 := by rw [φ.num]; exact ι_zero
theorem Kf.num1 (φ : Kf k F) : φ.to (nnum k 1) = 1 := by rw [φ.num]; exact ι_one
theorem Kf.inj (φ : Kf k F) {x y : Nb} (hx : x.ok k) (hy : y.ok k) (h : φ.to x = φ.to y) : x = y := by rw [← φ.of_to x hx, ← φ.of_to y hy, h]
theorem nv_out (φ : Kf k F) {xs : List Nb} {j : Nat} (h : xs.length ≤ j) : nv φ xs j = 0 := by
  unfold nv
  rw [List.getD_eq_getElem?_getD, List.getElem?_eq_none h]
  exact φ.num0
theorem nv_get (φ : Kf k F) {xs : List Nb} {j : Nat} {x : Nb} (h : xs[j]? = some x) : nv φ xs j = φ.to x := by
  unfold nv
  rw [List.getD_eq_getElem?_getD, h]; rfl
theorem nv_inj (φ : Kf k F) {xs ys : List Nb} (hx : OkR k xs) (hy : OkR k ys) (hl : xs.length = ys.length) (h : ∀ j, nv φ xs j = nv φ ys j) : xs = ys := by
  refine List.ext_getElem hl fun j h1 h2 => ?_
  have e := h j
  rw [nv_get φ (List.getElem?_eq_getElem h1), nv_get φ (List.getElem?_eq_getElem h2)] at e
  exact φ.inj (hx _ (List.getElem_mem h1)) (hy _ (List.getElem_mem h2)) e
/-! ### sums of products -/
noncomputable def dot : Nat → (Nat → F) → (Nat → F) → F
  | 0, _, _ => 0
  | n + 1, u, v => dot n u v + u n * v n
theorem dot_congr {n : Nat} {u u' v v' : Nat → F} (h : ∀ j, j < n → u j * v j = u' j * v' j) : dot n u v = dot n u' v' := by
  induction n with
  | zero => rfl
  | succ n ih => simp only [dot]; rw [ih fun j hj => h j (by (first | lia | omega)), h n (by (first | lia | omega))]
theorem dot_smul (a : F) (n : Nat) (u v : Nat → F) : dot n (fun j => a * u j) v = a * dot n u v := by
  induction n with
  | zero => simp only [dot]; grind
  | succ n ih => simp only [dot]; rw [ih]; grind
theorem dot_add (n : Nat) (u u' v : Nat → F) : dot n (fun j => u j + u' j) v = dot n u v + dot n u' v := by
  induction n with
  | zero => simp only [dot]; grind
  | succ n ih => simp only [dot]; rw [ih]; grind
theorem dot_comm (n : Nat) (u v : Nat → F) : dot n u v = dot n v u := dot_congr fun j _ => by grind
theorem dot_zero (n : Nat) (u v : Nat → F) (h : ∀ j, j < n → u j * v j = 0) : dot n u v = 0 := by
  induction n with
  | zero => rfl
  | succ n ih => simp only [dot]; rw [ih fun j hj => h j (by (first | lia | omega)), h n (by (first | lia | omega))]; grind
noncomputable def ndotF (k : Int) (l : List (Nb × Nb)) : Nb := l.foldl (fun s p => nadd k s (nmul k p.1 p.2)) (nnum k 0)
noncomputable def ndot (k : Int) (xs ys : List Nb) : Nb := ndotF k (xs.zip ys)
theorem zadd_ok {x y : Nb} (hk : KindOk k) (hx : x.ok k) (hy : y.ok k) : (nadd k x y).ok k := by
  have hl := hk.lt
  cases x with
  | q r => cases y with
    | q s => exact hx
    | z j => exact absurd (show k = 0 from hx) hy.1
  | z i => cases y with
    | q s => exact absurd (show k = 0 from hy) hx.1
    | z j => exact ⟨hx.1, Int.fmod_nonneg_of_pos _ (by have := hx.1; (first | lia | omega)), Int.fmod_lt_of_pos _ (by have := hx.1; (first | lia | omega))⟩
theorem zmul_ok {x y : Nb} (hk : KindOk k) (hx : x.ok k) (hy : y.ok k) : (nmul k x y).ok k := by
  have hl := hk.lt
  cases x with
  | q r => cases y with
    | q s => exact hx
    | z j => exact absurd (show k = 0 from hx) hy.1
  | z i => cases y with
    | q s => exact absurd (show k = 0 from hy) hx.1
    | z j => exact ⟨hx.1, Int.fmod_nonneg_of_pos _ (by have := hx.1; (first | lia | omega)), Int.fmod_lt_of_pos _ (by have := hx.1; (first | lia | omega))⟩
theorem zdiv_ok {x y : Nb} (hk : KindOk k) (hx : x.ok k) (hy : y.ok k) : (ndiv k x y).ok k := by
  have hl := hk.lt
  cases x with
  | q r => cases y with
    | q s => exact hx
    | z j => exact absurd (show k = 0 from hx) hy.1
  | z i => cases y with
    | q s => exact absurd (show k = 0 from hy) hx.1
    | z j => exact ⟨hx.1, Int.fmod_nonneg_of_pos _ (by have := hx.1; (first | lia | omega)), Int.fmod_lt_of_pos _ (by have := hx.1; (first | lia | omega))⟩
theorem ndotF_snoc (l : List (Nb × Nb)) (p : Nb × Nb) : ndotF k (l ++ [p]) = nadd k (ndotF k l) (nmul k p.1 p.2) := by
  unfold ndotF; rw [List.foldl_append]; rfl
theorem ndotF_ok (hk : KindOk k) : ∀ (l : List (Nb × Nb)), (∀ p ∈ l, p.1.ok k ∧ p.2.ok k) → (ndotF k l).ok k := by
  intro l
  unfold ndotF
  have go : ∀ (l : List (Nb × Nb)) (s : Nb), s.ok k → (∀ p ∈ l, p.1.ok k ∧ p.2.ok k) → (l.foldl (fun s p => nadd k s (nmul k p.1 p.2)) s).ok k := by
    intro l
    induction l with
    | nil => intro s hs _; exact hs
    | cons p l ih => intro s hs h; exact ih _ (zadd_ok hk hs (zmul_ok hk (h p List.mem_cons_self).1 (h p List.mem_cons_self).2)) fun q hq => h q (List.mem_cons_of_mem _ hq)
  exact fun h => go l _ (nnum_ok hk 0) h
theorem zip_ok {xs ys : List Nb} (hx : OkR k xs) (hy : OkR k ys) : ∀ p ∈ xs.zip ys, p.1.ok k ∧ p.2.ok k := fun p hp => by
  obtain ⟨a, b⟩ := p
  obtain ⟨h1, h2⟩ := List.of_mem_zip hp
  exact ⟨hx _ h1, hy _ h2⟩
theorem ndot_ok (hk : KindOk k) {xs ys : List Nb} (hx : OkR k xs) (hy : OkR k ys) : (ndot k xs ys).ok k := ndotF_ok hk _ (zip_ok hx hy)
theorem ndot_take (φ : Kf k F) (hk : KindOk k) {xs ys : List Nb} (hx : OkR k xs) (hy : OkR k ys) (hl : xs.length = ys.length) : ∀ i, i ≤ xs.length → φ.to (ndotF k ((xs.zip ys).take i)) = dot i (nv φ xs) (nv φ ys)
  | 0, _ => by
    show φ.to (nnum k 0) = 0
    exact φ.num0
  | i + 1, h => by
    have h1 : i < xs.length := h
    have h2 : i < ys.length := by (first | lia | omega)
    have hz : i < (xs.zip ys).length := by rw [List.length_zip]; (first | lia | omega)
    rw [List.take_succ_eq_append_getElem hz, ndotF_snoc, List.getElem_zip]
    have ih := ndot_take φ hk hx hy hl i (by (first | lia | omega))
    have o1 := hx _ (List.getElem_mem h1)
    have o2 := hy _ (List.getElem_mem h2)
    rw [φ.add (ndotF_ok hk _ fun p hp => zip_ok hx hy p (List.mem_of_mem_take hp)) (zmul_ok hk o1 o2), ih, φ.mul o1 o2]
    simp only [dot]
    rw [nv_get φ (List.getElem?_eq_getElem h1), nv_get φ (List.getElem?_eq_getElem h2)]
theorem ndot_to (φ : Kf k F) (hk : KindOk k) {xs ys : List Nb} (hx : OkR k xs) (hy : OkR k ys) (hl : xs.length = ys.length) : φ.to (ndot k xs ys) = dot xs.length (nv φ xs) (nv φ ys) := by
  have h := ndot_take φ hk hx hy hl xs.length (Nat.le_refl _)
  rw [List.take_of_length_le (by rw [List.length_zip]; (first | lia | omega))] at h
  exact h
/-! ### rows as whole numbers over one bottom -/
noncomputable def scW (b : Int) : Nb → Int
  | .q r => r.num * b.fdiv (r.den : Int)
  | .z i => i
noncomputable def dvB (b : Int) : Nb → Prop
  | .q r => (r.den : Int) ∣ b
  | .z _ => True
structure Scl (k : Int) (xs : List Nb) (ws : List Int) (b : Int) : Prop where
  eq : ws = xs.map (scW b)
  pos : 0 < b
  one : k ≠ 0 → b = 1
  dv : ∀ x ∈ xs, dvB b x
theorem Scl.len {xs : List Nb} {ws : List Int} {b : Int} (s : Scl k xs ws b) : ws.length = xs.length := by rw [s.eq, List.length_map]
theorem Scl.ne (φ : Kf k F) (hk : KindOk k) {xs : List Nb} {ws : List Int} {b : Int} (s : Scl k xs ws b) : (ι b : F) ≠ 0 := fun z => by
  rw [φ.zero] at z
  by_cases k0 : k = 0
  · rw [k0, Int.zero_dvd] at z; have := s.pos; (first | lia | omega)
  · rw [s.one k0] at z
    have := Int.le_of_dvd (by decide) z
    rcases hk with h | h
    · exact k0 h
    · have := h.lo; (first | lia | omega)
theorem scW_to (φ : Kf k F) {b : Int} (one : k ≠ 0 → b = 1) {x : Nb} (hx : x.ok k) (dv : dvB b x) : (ι (scW b x) : F) = φ.to x * ι b := by
  cases x with
  | q r =>
    have k0 : k = 0 := hx
    have e := φ.rat r k0
    have d : (r.den : Int) ∣ b := dv
    have e2 := fdiv_dvd d (den_ne r)
    show (ι (r.num * b.fdiv (r.den : Int)) : F) = _
    rw [ι_mul, ← e]
    have e3 : (ι (b.fdiv (r.den : Int)) : F) * ι (r.den : Int) = ι b := by rw [← ι_mul, e2]
    grind
  | z i =>
    have k0 : k ≠ 0 := hx.1
    rw [φ.rest i k0, one k0, ι_one]
    show (ι i : F) = _
    grind
theorem Scl.fv (φ : Kf k F) {xs : List Nb} {ws : List Int} {b : Int} (s : Scl k xs ws b) (hx : OkR k xs) (j : Nat) : (La.fv ws j : F) = nv φ xs j * ι b := by
  rcases Nat.lt_or_ge j xs.length with g | g
  · have e : ws[j]? = some (scW b xs[j]) := by rw [s.eq, List.getElem?_map, List.getElem?_eq_getElem g]; rfl
    rw [nv_get φ (List.getElem?_eq_getElem g), ← scW_to φ s.one (hx _ (List.getElem_mem g)) (s.dv _ (List.getElem_mem g))]
    unfold La.fv
    rw [List.getD_eq_getElem?_getD, e]; rfl
  · rw [nv_out φ g, fv_out (by rw [s.len]; exact g)]; grind
/-- the sum of a list of products -/
theorem sum_dot (n : Nat) {ws vs : List Int} (h1 : ws.length = n) (h2 : vs.length = n) : (ι (List.zipWith (· * ·) ws vs).sum : F) = dot n (fv ws) (fv vs) := by
  have go : ∀ i, i ≤ n → (ι ((List.zipWith (· * ·) ws vs).take i).sum : F) = dot i (fv ws) (fv vs) := by
    intro i
    induction i with
    | zero => intro _; rw [List.take_zero, List.sum_nil]; exact ι_zero
    | succ i ih =>
      intro hi
      have hz : i < (List.zipWith (· * ·) ws vs).length := by rw [List.length_zipWith]; (first | lia | omega)
      rw [List.take_succ_eq_append_getElem hz, List.sum_append, ι_add, ih (by (first | lia | omega)), List.getElem_zipWith]
      simp only [dot]
      have e1 : (fv ws i : F) = ι (ws[i]'(by (first | lia | omega))) := by unfold fv; rw [List.getD_eq_getElem?_getD, List.getElem?_eq_getElem (by (first | lia | omega))]; rfl
      have e2 : (fv vs i : F) = ι (vs[i]'(by (first | lia | omega))) := by unfold fv; rw [List.getD_eq_getElem?_getD, List.getElem?_eq_getElem (by (first | lia | omega))]; rfl
      rw [e1, e2, ← ι_mul]
      simp
  have := go n (Nat.le_refl _)
  rw [List.take_of_length_le (by rw [List.length_zipWith]; (first | lia | omega))] at this
  exact this
theorem nnum_ne (φ : Kf k F) {b : Int} (h : (ι b : F) ≠ 0) : nnum k b ≠ nnum k 0 := fun z => h (by rw [← φ.num, z, φ.num0])
/-- by rests: the sum of products, its rest -/
theorem zdot_eq (hk : KindOk k) (k0 : k ≠ 0) {is js : List Int} (hl : is.length = js.length) (hx : OkR k (is.map .z)) (hy : OkR k (js.map .z)) : Nb.z ((List.zipWith (· * ·) is js).sum.fmod k) = ndot k (is.map .z) (js.map .z) := by
  obtain ⟨F, _, _, ⟨φ⟩⟩ := field_of hk
  have e : Nb.z ((List.zipWith (· * ·) is js).sum.fmod k) = nnum k (List.zipWith (· * ·) is js).sum := by unfold nnum; rw [if_neg k0]
  rw [e]
  refine φ.inj (nnum_ok hk _) (ndot_ok hk hx hy) ?_
  rw [φ.num, ndot_to φ hk hx hy (by simp [hl]), sum_dot is.length rfl hl.symm, List.length_map]
  have z0 : Nb.z 0 = nnum k 0 := by unfold nnum; rw [if_neg k0, Int.zero_fmod]
  have h : ∀ (l : List Int) j, nv φ (l.map Nb.z) j = fv l j := fun l j => by
    unfold nv fv
    rw [← z0, getD_map Nb.z 0 (Nb.z 0) rfl, φ.rest _ k0]
  exact dot_congr fun j _ => by rw [h, h]
/-! ### the reduced form -/
noncomputable def RmN (φ : Kf k F) (M : List (List Nb)) : (Nat → F) → Prop := fun v => ∃ r ∈ M, v = nv φ r
/-- rows of one width, numbers of the kind -/
noncomputable def OkM (k : Int) (n : Nat) (M : List (List Nb)) : Prop := ∀ r ∈ M, r.length = n ∧ OkR k r
/-- R is a reduced list -/
structure IsR (φ : Kf k F) (n : Nat) (R : List (List Nb)) (ls : List Nat) : Prop where
  ok : OkM k n R
  len : ls.length = R.length
  rr : Rr n (ls.zip (R.map (nv φ)))
/-- R is the reduced form of M -/
structure RedOf (φ : Kf k F) (n : Nat) (M R : List (List Nb)) (ls : List Nat) : Prop extends IsR φ n R ls where
  to : ∀ v, Span (RmN φ M) v → Span (RmN φ R) v
  fro : ∀ v, Span (RmN φ R) v → Span (RmN φ M) v
theorem rows_iff {φ : Kf k F} {R : List (List Nb)} {ls : List Nat} (h : ls.length = R.length) (v : Nat → F) : Rows (ls.zip (R.map (nv φ))) v ↔ RmN φ R v := by
  constructor
  · rintro ⟨p, hp, rfl⟩
    obtain ⟨a, b⟩ := p
    obtain ⟨r, hr, e⟩ := List.mem_map.mp (List.of_mem_zip hp).2
    exact ⟨r, hr, e.symm⟩
  · rintro ⟨r, hr, rfl⟩
    obtain ⟨i, hi, e⟩ := List.getElem_of_mem hr
    have h1 : i < ls.length := by (first | lia | omega)
    have h2 : i < (R.map (nv φ)).length := by rw [List.length_map]; exact hi
    refine ⟨(ls[i], (R.map (nv φ))[i]), ?_, by simp [e]⟩
    rw [← List.getElem_zip (h := by rw [List.length_zip]; (first | lia | omega))]
    exact List.getElem_mem _
theorem IsR.rows {φ : Kf k F} {n : Nat} {R : List (List Nb)} {ls : List Nat} (h : IsR φ n R ls) {v : Nat → F} : Span (Rows (ls.zip (R.map (nv φ)))) v ↔ Span (RmN φ R) v :=
  ⟨fun q => q.mono fun u => (rows_iff h.len u).mp, fun q => q.mono fun u => (rows_iff h.len u).mpr⟩
theorem IsR.unique {φ : Kf k F} {n : Nat} {R R' : List (List Nb)} {ls ls' : List Nat} (h : IsR φ n R ls) (h' : IsR φ n R' ls') (s1 : ∀ v, Span (RmN φ R) v → Span (RmN φ R') v) (s2 : ∀ v, Span (RmN φ R') v → Span (RmN φ R) v) : R = R' ∧ ls = ls' := by
  have e := h.rr.unique h'.rr (fun v q => h'.rows.mpr (s1 v (h.rows.mp q))) (fun v q => h.rows.mpr (s2 v (h'.rows.mp q)))
  have el := congrArg (List.map Prod.fst) e
  have er := congrArg (List.map Prod.snd) e
  rw [List.map_fst_zip (by rw [List.length_map]; exact Nat.le_of_eq h.len), List.map_fst_zip (by rw [List.length_map]; exact Nat.le_of_eq h'.len)] at el
  rw [List.map_snd_zip (by rw [List.length_map]; exact Nat.le_of_eq h.len.symm), List.map_snd_zip (by rw [List.length_map]; exact Nat.le_of_eq h'.len.symm)] at er
  refine ⟨?_, el⟩
  have hl : R.length = R'.length := by have := congrArg List.length er; simpa using this
  refine List.ext_getElem hl fun i h1 h2 => ?_
  have e2 : (R.map (nv φ))[i]'(by simpa using h1) = (R'.map (nv φ))[i]'(by simpa using h2) := by simp only [er]
  rw [List.getElem_map, List.getElem_map] at e2
  have o1 := h.ok _ (List.getElem_mem h1)
  have o2 := h'.ok _ (List.getElem_mem h2)
  exact nv_inj φ o1.2 o2.2 (by rw [o1.1, o2.1]) fun j => by rw [e2]
theorem RedOf.unique {φ : Kf k F} {n : Nat} {M M' R R' : List (List Nb)} {ls ls' : List Nat} (h : RedOf φ n M R ls) (h' : RedOf φ n M' R' ls') (s1 : ∀ v, Span (RmN φ M) v → Span (RmN φ M') v) (s2 : ∀ v, Span (RmN φ M') v → Span (RmN φ M) v) : R = R' :=
  (h.toIsR.unique h'.toIsR (fun v q => h'.to v (s1 v (h.fro v q))) (fun v q => h.to v (s2 v (h'.fro v q)))).1
/-- what the program makes of its rows of whole numbers -/
noncomputable def overL (k : Int) (p : Nat × List Int) : List Nb := p.2.map fun w => ndiv k (nnum k w) (nnum k (p.2.getD p.1 0))
noncomputable def redM (k : Int) (n : Nat) (Ws : List (List Int)) : List (List Nb) := (swTo k Ws n).1.map (overL k)
noncomputable def leadsM (k : Int) (n : Nat) (Ws : List (List Int)) : List Nat := (swTo k Ws n).1.map (·.1)
theorem redM_of (φ : Kf k F) (hk : KindOk k) {n : Nat} {M : List (List Nb)} {Ws : List (List Int)} (ok : OkM k n M) (hl : Ws.length = M.length) (hs : ∀ (i : Nat) (r : List Nb) (ws : List Int), M[i]? = some r → Ws[i]? = some ws → ∃ b, Scl k r ws b) :
    RedOf φ n M (redM k n Ws) (leadsM k n Ws) := by
  have k0 := hk.lt.1
  have pair : ∀ ws ∈ Ws, ∃ r ∈ M, ∃ b, Scl k r ws b := fun ws hw => by
    obtain ⟨i, hi, e⟩ := List.getElem_of_mem hw
    have h2 : i < M.length := by (first | lia | omega)
    exact ⟨M[i], List.getElem_mem h2, hs i M[i] ws (List.getElem?_eq_getElem h2) (by rw [List.getElem?_eq_getElem hi, e])⟩
  have pair2 : ∀ r ∈ M, ∃ ws ∈ Ws, ∃ b, Scl k r ws b := fun r hr => by
    obtain ⟨i, hi, e⟩ := List.getElem_of_mem hr
    have h2 : i < Ws.length := by (first | lia | omega)
    exact ⟨Ws[i], List.getElem_mem h2, hs i r Ws[i] (by rw [List.getElem?_eq_getElem hi, e]) (List.getElem?_eq_getElem h2)⟩
  have wl : ∀ ws ∈ Ws, ws.length = n := fun ws hw => by
    obtain ⟨r, hr, b, s⟩ := pair ws hw
    rw [s.len, (ok r hr).1]
  obtain ⟨rr, s1, s2⟩ := swept_rr φ k0 wl
  have sp1 : ∀ v, Span (RmI F Ws) v → Span (RmN φ M) v := fun v q => q.bind fun u ⟨ws, hw, e⟩ => by
    obtain ⟨r, hr, b, s⟩ := pair ws hw
    have : Span (RmN φ M) (nv φ r) := .of ⟨r, hr, rfl⟩
    exact (this.smul (ι b)).cast fun j => by rw [e, s.fv φ (ok r hr).2]; grind
  have sp2 : ∀ v, Span (RmN φ M) v → Span (RmI F Ws) v := fun v q => q.bind fun u ⟨r, hr, e⟩ => by
    obtain ⟨ws, hw, b, s⟩ := pair2 r hr
    have : Span (RmI F Ws) (La.fv ws) := .of ⟨ws, hw, rfl⟩
    have n := s.ne φ hk
    exact (this.smul (1 / ι b)).cast fun j => by rw [e, s.fv φ (ok r hr).2]; grind
  have rowv : ∀ p ∈ (swTo k Ws n).1, (nv φ (overL k p) : Nat → F) = fun j => fv p.2 j / fv p.2 p.1 := fun p hp => by
    obtain ⟨p1, p2, p3, p4⟩ := swept_lead φ k0 wl hp
    have fine := Fine.to k0 wl n
    have ln : (ι (p.2.getD p.1 0) : F) ≠ 0 := fun z => p3 ((fv_zero φ (fine.df p hp) p.1).mp z)
    funext j
    rcases Nat.lt_or_ge j p.2.length with g | g
    · have e : (overL k p)[j]? = some (ndiv k (nnum k p.2[j]) (nnum k (p.2.getD p.1 0))) := by unfold overL; rw [List.getElem?_map, List.getElem?_eq_getElem g]; rfl
      rw [nv_get φ e, φ.div (nnum_ok hk _) (nnum_ok hk _) (nnum_ne φ ln), φ.num, φ.num]
      show _ = fv p.2 j / fv p.2 p.1
      unfold fv
      rw [List.getD_eq_getElem?_getD (l := p.2) (i := j), List.getElem?_eq_getElem g]; rfl
    · rw [nv_out φ (by unfold overL; rw [List.length_map]; exact g)]
      show _ = fv p.2 j / fv p.2 p.1
      rw [fv_out g]; grind
  have zz : (leadsM k n Ws).zip ((redM k n Ws).map (nv φ)) = (swTo k Ws n).1.map fun p => (p.1, fun j => (fv p.2 j / fv p.2 p.1 : F)) := by
    unfold leadsM redM
    rw [List.map_map, List.zip_map', List.map_inj_left]
    intro p hp
    show (p.1, nv φ (overL k p)) = _
    rw [rowv p hp]
  have hlen : (leadsM k n Ws).length = (redM k n Ws).length := by unfold leadsM redM; rw [List.length_map, List.length_map]
  refine ⟨⟨fun r hr => ?_, hlen, by rw [zz]; exact rr⟩, fun v q => ?_, fun v q => ?_⟩
  · obtain ⟨p, hp, rfl⟩ := List.mem_map.mp hr
    obtain ⟨p1, p2, p3, p4⟩ := swept_lead φ k0 wl hp
    refine ⟨by unfold overL; rw [List.length_map]; exact p2, fun x hx => ?_⟩
    obtain ⟨w, _, rfl⟩ := List.mem_map.mp hx
    exact zdiv_ok hk (nnum_ok hk _) (nnum_ok hk _)
  · have := s2 v (sp2 v q)
    rw [← zz] at this
    exact this.mono fun u => (rows_iff hlen u).mp
  · refine sp1 v (s1 v ?_)
    rw [← zz]
    exact q.mono fun u => (rows_iff hlen u).mpr
end
end La

namespace La
open Lean.Grind Nm
section
variable {k : Int}
theorem gcdL_snoc (l : List Int) (w : Int) : gcdL (l ++ [w]) = Nat.gcd (gcdL l) w.natAbs := by unfold gcdL; rw [List.foldl_append]; rfl
theorem gcdL_app_dvd (l l' : List Int) : gcdL (l ++ l') ∣ gcdL l := by unfold gcdL; rw [List.foldl_append]; exact (gcd_fold_dvd l' _).1
theorem gcdL_one {ws : List Int} {i : Nat} (h : gcdL (ws.take i) = 1) : gcdL ws = 1 := by
  have := gcdL_app_dvd (ws.take i) (ws.drop i)
  rw [List.take_append_drop, h] at this
  exact Nat.dvd_one.mp this
theorem easedM_one {ws : List Int} (h : gcdL ws = 1) : easedM 0 ws = ws := by
  unfold easedM
  rw [if_neg (by simp), if_neg (by (first | lia | omega)), h]
  have : (fun w : Int => w.fdiv ((1 : Nat) : Int)) = id := funext fun w => Int.fdiv_one w
  rw [this, List.map_id]
theorem easedM_nil {ws : List Int} (h : gcdL ws = 0) : easedM 0 ws = ws := by
  unfold easedM
  rw [if_neg (by simp), if_pos h]
theorem easedM_div {ws : List Int} (h : gcdL ws ≠ 0) : easedM 0 ws = ws.map fun w => w.fdiv ((gcdL ws : Nat) : Int) := by
  unfold easedM
  rw [if_neg (by simp), if_neg h]
theorem easedM_mod (h : k ≠ 0) (ws : List Int) : easedM k ws = ws.map (·.fmod k) := by
  unfold easedM
  rw [if_pos h]
theorem swTo_len (rows : List (List Int)) : ∀ c, (swTo k rows c).1.length + (swTo k rows c).2.length = rows.length
  | 0 => by show 0 + (rows.map (easedM k)).length = _; rw [List.length_map]; (first | lia | omega)
  | c + 1 => by
    have ih := swTo_len rows c
    show (swTurn k c (swTo k rows c)).1.length + (swTurn k c (swTo k rows c)).2.length = _
    generalize swTo k rows c = s at ih
    unfold swTurn
    cases e : s.2.filter (fun r => decide (r.getD c 0 ≠ 0)) with
    | nil => exact ih
    | cons l rest =>
      show (s.1.map _ ++ [(c, l)]).length + (s.2.filter _ ++ rest.map _).length = _
      have h1 : (s.2.filter (fun r => decide (r.getD c 0 ≠ 0))).length = rest.length + 1 := by rw [e]; rfl
      have h2 : ∀ l : List (List Int), (l.filter (fun r => decide (r.getD c 0 ≠ 0))).length + (l.filter (fun r => decide (r.getD c 0 = 0))).length = l.length := by
        intro l
        induction l with
        | nil => rfl
        | cons x l ih =>
          rw [List.filter_cons, List.filter_cons]
          by_cases z : x.getD c 0 = 0
          · simp only [z, ne_eq, not_true_eq_false, decide_false, decide_true, if_true, List.length_cons]
            simp only [Bool.false_eq_true, if_false]
            simp only [ne_eq] at ih
            (first | lia | omega)
          · simp only [z, ne_eq, not_false_eq_true, decide_false, decide_true, if_true, List.length_cons]
            simp only [Bool.false_eq_true, if_false]
            simp only [ne_eq] at ih
            (first | lia | omega)
      have h3 := h2 s.2
      simp only [List.length_append, List.length_map, List.length_cons, List.length_nil]
      (first | lia | omega)
theorem swTo_nil : ∀ c, swTo k [] c = ([], [])
  | 0 => rfl
  | c + 1 => by
    show swTurn k c (swTo k [] c) = _
    rw [swTo_nil c]; rfl
/-- a filter one on -/
theorem filter_snoc {α : Type} {l : List α} {i : Nat} {x : α} (p : α → Bool) (h : l[i]? = some x) : (l.take (i + 1)).filter p = (l.take i).filter p ++ (if p x = true then [x] else []) := by
  obtain ⟨hi, e⟩ := List.getElem?_eq_some_iff.mp h
  rw [List.take_succ_eq_append_getElem hi, List.filter_append, e, List.filter_cons, List.filter_nil]
/-- the first number that is not nought -/
theorem first_of {ws : List Int} {p : Nat} (hp : p < ws.length) (hz : ∀ j, j < p → ws.getD j 0 = 0) (hn : ws.getD p 0 ≠ 0) : (ws.filter fun w => decide (w ≠ 0))[0]? = some (ws.getD p 0) := by
  induction ws generalizing p with
  | nil => simp at hp
  | cons w ws ih =>
    cases p with
    | zero =>
      have h : w ≠ 0 := by simpa using hn
      rw [List.filter_cons, if_pos (by simpa using h)]
      simp
    | succ p =>
      have h0 : w = 0 := by simpa using hz 0 (Nat.succ_pos p)
      rw [List.filter_cons, if_neg (by simp [h0])]
      have := ih (p := p) (by simpa using hp) (fun j hj => by have := hz (j + 1) (by (first | lia | omega)); simpa using this) (by simpa using hn)
      rw [this]; simp
end
end La

namespace La
open Lean.Grind Nm
/-! ### numbers over a known bottom: how row turns let them grow -/
/-! ### row turns keep the room -/
section
variable {k : Int} {F : Type} [Field F]
theorem mem_set_or {α : Type} {l : List α} {i : Nat} {x y : α} (h : y ∈ l.set i x) : y = x ∨ y ∈ l := by
  rcases List.mem_or_eq_of_mem_set h with h | h
  · exact .inr h
  · exact .inl h
theorem nv_map {φ : Kf k F} {f : Nb → Nb} {xs : List Nb} (g : F → F) (h0 : g 0 = 0) (h : ∀ x ∈ xs, φ.to (f x) = g (φ.to x)) (j : Nat) : nv φ (xs.map f) j = g (nv φ xs j) := by
  rcases Nat.lt_or_ge j xs.length with l | l
  · rw [nv_get φ (x := f xs[j]) (by rw [List.getElem?_map, List.getElem?_eq_getElem l]; rfl), nv_get φ (List.getElem?_eq_getElem l), h _ (List.getElem_mem l)]
  · rw [nv_out φ (by rw [List.length_map]; exact l), nv_out φ l, h0]
theorem nv_zip {φ : Kf k F} {f : Nb → Nb → Nb} {xs ys : List Nb} (hl : xs.length = ys.length) (g : F → F → F) (h0 : g 0 0 = 0) (h : ∀ x ∈ xs, ∀ y ∈ ys, φ.to (f x y) = g (φ.to x) (φ.to y)) (j : Nat) : nv φ (List.zipWith f xs ys) j = g (nv φ xs j) (nv φ ys j) := by
  rcases Nat.lt_or_ge j xs.length with l | l
  · have l2 : j < ys.length := by (first | lia | omega)
    rw [nv_get φ (x := f xs[j] ys[j]) (by rw [List.getElem?_zipWith, List.getElem?_eq_getElem l, List.getElem?_eq_getElem l2]), nv_get φ (List.getElem?_eq_getElem l), nv_get φ (List.getElem?_eq_getElem l2), h _ (List.getElem_mem l) _ (List.getElem_mem l2)]
  · rw [nv_out φ (by rw [List.length_zipWith]; (first | lia | omega)), nv_out φ l, nv_out φ (by (first | lia | omega)), h0]
end
end La

namespace La
open Lean.Grind Nm
section
variable {k : Int} {F : Type} [Field F]
theorem dot_one {n l : Nat} {u v : Nat → F} (hl : l < n) (h : ∀ j, j < n → j ≠ l → u j * v j = 0) : dot n u v = u l * v l := by
  induction n with
  | zero => exact absurd hl (Nat.not_lt_zero l)
  | succ n ih =>
    simp only [dot]
    by_cases e : l = n
    · subst e
      rw [dot_zero l u v fun j hj => h j (by (first | lia | omega)) (by (first | lia | omega))]; grind
    · rw [ih (by (first | lia | omega)) fun j hj ne => h j (by (first | lia | omega)) ne, h n (by (first | lia | omega)) (Ne.symm e)]; grind
/-! ### rows with one number more -/
theorem zip_mem {α β : Type} {xs : List α} {ys : List β} {i : Nat} {a : α} {b : β} (h1 : xs[i]? = some a) (h2 : ys[i]? = some b) : (a, b) ∈ xs.zip ys :=
  List.mem_of_getElem? (i := i) (by rw [List.getElem?_zip_eq_some]; exact ⟨h1, h2⟩)
/-! ### where no x is, some y is -/
noncomputable def trF (n : Nat) (A : List (List Nb)) : List (List Nb) := (List.range n).map fun j => A.map fun r => r.getD j (.z 0)
noncomputable def unitF (l : Nat) (c : F) : Nat → F := fun j => if j = l then c else 0
theorem dot_unit {n l : Nat} (hl : l < n) (u : Nat → F) (c : F) : dot n u (unitF l c) = c * u l := by
  rw [dot_one hl fun j hj ne => by unfold unitF; rw [if_neg ne]; grind]
  unfold unitF
  rw [if_pos rfl]; grind
theorem nv_tr (φ : Kf k F) {n j i : Nat} {A : List (List Nb)} {a : List Nb} (oA : OkM k n A) (hj : j < n) (ha : A[i]? = some a) : nv φ (A.map fun r => r.getD j (.z 0)) i = nv φ a j := by
  have la := (oA a (List.mem_of_getElem? ha)).1
  have hj' : j < a.length := by (first | lia | omega)
  rw [nv_get φ (x := a.getD j (.z 0)) (by rw [List.getElem?_map, ha]; rfl), nv_get φ (List.getElem?_eq_getElem hj'), List.getD_eq_getElem?_getD, List.getElem?_eq_getElem hj']; rfl
end
end La

namespace La
open Lean.Grind Nm
/-! ### rows over one bottom: sizes -/
/-! ### the leads that are found so far -/
end La

namespace La
open Lean.Grind Nm
section
variable {k : Int} {F : Type} [Field F]
noncomputable abbrev Rm (φ : Kf k F) (M : List (List Nb)) : (Nat → F) → Prop := Span (RmN φ M)
variable {φ : Kf k F} {n : Nat} {R R' A : List (List Nb)} {ls ls' : List Nat}
theorem IsR.supp (h : IsR φ n R ls) {v : Nat → F} (hv : Rm φ R v) (j : Nat) (hj : n ≤ j) : v j = 0 := h.rr.out_of (h.rows.mpr hv) j hj
theorem IsR.get (h : IsR φ n R ls) {i l : Nat} {r : List Nb} (hl : ls[i]? = some l) (hr : R[i]? = some r) : (l, nv φ r) ∈ ls.zip (R.map (nv φ)) := zip_mem hl (by rw [List.getElem?_map, hr]; rfl)
theorem IsR.lead_of (h : IsR φ n R ls) {l : Nat} (hl : l ∈ ls) : ∃ (i : Nat) (r : List Nb), ls[i]? = some l ∧ R[i]? = some r := by
  obtain ⟨i, hi, e⟩ := List.getElem_of_mem hl
  have h2 : i < R.length := by rw [← h.len]; exact hi
  exact ⟨i, R[i], by rw [List.getElem?_eq_getElem hi, e], List.getElem?_eq_getElem h2⟩
end
end La

namespace La
open Lean.Grind Nm
section
variable {k : Int} {F : Type} [Field F] {φ : Kf k F} {n : Nat}
/-! ### every list of rows has a reduced form -/
theorem scl_exists (hk : KindOk k) : ∀ {xs : List Nb}, OkR k xs → ∃ b, Scl k xs (xs.map (scW b)) b := by
  intro xs ox
  by_cases k0 : k = 0
  · have : ∃ b : Int, 0 < b ∧ ∀ x ∈ xs, dvB b x := by
      induction xs with
      | nil => exact ⟨1, by decide, fun x hx => nomatch hx⟩
      | cons x xs ih =>
        obtain ⟨b, b0, hb⟩ := ih fun y hy => ox y (List.mem_cons_of_mem _ hy)
        cases x with
        | z i => exact absurd k0 (ox (.z i) List.mem_cons_self).1
        | q r =>
          refine ⟨b * (r.den : Int), Int.mul_pos b0 (den_pos r), fun y hy => ?_⟩
          rcases List.mem_cons.mp hy with e | hy
          · rw [e]; exact Int.dvd_mul_left _ _
          · have := hb y hy
            cases y with
            | q s => exact Int.dvd_trans (show (s.den : Int) ∣ b from this) (Int.dvd_mul_right _ _)
            | z j => trivial
    obtain ⟨b, b0, hb⟩ := this
    exact ⟨b, rfl, b0, fun z => absurd k0 z, hb⟩
  · refine ⟨1, rfl, by decide, fun _ => rfl, fun x hx => ?_⟩
    have o := ox x hx
    cases x with
    | q r => exact absurd o k0
    | z i => trivial
/-! ### how long a reduced form is -/
theorem sortedN_ext : ∀ {P Q : List Nat}, P.Pairwise (· < ·) → Q.Pairwise (· < ·) → (∀ p ∈ P, p ∈ Q) → (∀ q ∈ Q, q ∈ P) → P = Q
  | [], [], _, _, _, _ => rfl
  | [], q :: _, _, _, _, h => nomatch h q List.mem_cons_self
  | p :: _, [], _, _, h, _ => nomatch h p List.mem_cons_self
  | p :: P, q :: Q, hP, hQ, h1, h2 => by
    rw [List.pairwise_cons] at hP hQ
    have e : p = q := by
      rcases List.mem_cons.mp (h1 p List.mem_cons_self) with e | m
      · exact e
      · rcases List.mem_cons.mp (h2 q List.mem_cons_self) with e | m'
        · exact e.symm
        · have := hP.1 q m'; have := hQ.1 p m; (first | lia | omega)
    subst e
    rw [sortedN_ext hP.2 hQ.2 (fun r hr => ?_) (fun r hr => ?_)]
    · rcases List.mem_cons.mp (h1 r (List.mem_cons_of_mem _ hr)) with e | m
      · subst e; exact absurd (hP.1 r hr) (Nat.lt_irrefl _)
      · exact m
    · rcases List.mem_cons.mp (h2 r (List.mem_cons_of_mem _ hr)) with e | m
      · subst e; exact absurd (hQ.1 r hr) (Nat.lt_irrefl _)
      · exact m
theorem filter_parts (p : Nat → Bool) : ∀ l : List Nat, (l.filter p).length + (l.filter fun x => !p x).length = l.length
  | [] => rfl
  | x :: l => by
    have ih := filter_parts p l
    rw [List.filter_cons, List.filter_cons]
    cases h : p x <;> simp <;> (first | lia | omega)
variable {U W : List (List Nb)} {lu lw : List Nat}
theorem IsR.inc (h : IsR φ n U lu) : lu.Pairwise (· < ·) := by
  have := h.rr.inc
  rw [← List.pairwise_map (f := Prod.fst) (R := (· < ·)), List.map_fst_zip (by rw [List.length_map]; exact Nat.le_of_eq h.len)] at this
  exact this
/-- leads: first places of what lies in the room -/
theorem IsR.lead_iff (h : IsR φ n U lu) (p : Nat) : p ∈ lu ↔ ∃ v, Rm φ U v ∧ (∀ j, j < p → v j = 0) ∧ v p ≠ 0 := by
  constructor
  · intro hp
    obtain ⟨i, r, h1, h2⟩ := h.lead_of hp
    have hm := h.get h1 h2
    have o : nv φ r p = 1 := h.rr.one _ hm
    exact ⟨nv φ r, .of ⟨r, List.mem_of_getElem? h2, rfl⟩, h.rr.bef _ hm, by rw [o]; exact fun e => Field.zero_ne_one e.symm⟩
  · rintro ⟨v, hv, z, ne⟩
    obtain ⟨q, hq, e⟩ := h.rr.lead (h.rows.mpr hv) z ne
    rw [← e]
    exact (List.of_mem_zip (show (q.1, q.2) ∈ _ from hq)).1
theorem IsR.take_off (h : IsR φ n U lu) (v : Nat → F) : ∃ u, Rm φ U u ∧ ∀ l ∈ lu, u l = v l := by
  refine ⟨comb (lu.zip (U.map (nv φ))) v, h.rows.mp (comb_span v _), fun l hl => ?_⟩
  obtain ⟨i, r, h1, h2⟩ := h.lead_of hl
  have hp := h.get h1 h2
  have gen : ∀ (P : List (Pv F)), P.Pairwise (fun a b => a.1 < b.1) → (∀ p ∈ P, p ∈ lu.zip (U.map (nv φ))) → (∃ p ∈ P, p.1 = l) → comb P v l = v l * 1 := by
    intro P
    induction P with
    | nil => intro _ _ ⟨p, hp, _⟩; exact nomatch hp
    | cons p P ih =>
      intro pw hm hex
      rw [List.pairwise_cons] at pw
      have hp0 := hm p List.mem_cons_self
      simp only [comb]
      by_cases ep : p.1 = l
      · have o : p.2 p.1 = 1 := h.rr.one _ hp0
        rw [comb_zero v l P fun q hq => ?_]
        · rw [← ep, o]; grind
        · have hq0 := hm q (List.mem_cons_of_mem _ hq)
          have : p.1 < q.1 := pw.1 q hq
          have z : q.2 p.1 = 0 := h.rr.oth q hq0 p hp0 (by (first | lia | omega))
          rw [← ep, z]; grind
      · obtain ⟨q, hq, eq⟩ := hex
        rcases List.mem_cons.mp hq with z | z
        · rw [z] at eq; exact absurd eq ep
        · have hq0 := hm q (List.mem_cons_of_mem _ z)
          have z2 : p.2 q.1 = 0 := h.rr.oth p hp0 q hq0 (by rw [eq]; exact ep)
          rw [ih pw.2 (fun r hr => hm r (List.mem_cons_of_mem _ hr)) ⟨q, z, eq⟩, ← eq, z2]; grind
  rw [gen _ h.rr.inc (fun p hp => hp) ⟨_, hp, rfl⟩]; grind
end
end La

namespace La
open Lean.Grind Nm
section
variable {k : Int} {F : Type} [Field F] {φ : Kf k F} {n : Nat}
/-! ### what holds of every row, place by place, holds of every combination -/
theorem Span.read {S : (Nat → F) → Prop} {v : Nat → F} {t : Nat} {f : Nat → Nat} {g : Nat → F} (h : Span S v) (hr : ∀ r, S r → r t = dot n (fun i => r (f i)) g) : v t = dot n (fun i => v (f i)) g := by
  refine h.all (P := fun v => v t = dot n (fun i => v (f i)) g) ?_ fun c r v q e => ?_
  · exact (La.dot_zero n _ g fun j _ => by grind).symm
  · show c * r t + v t = dot n (fun i => c * r (f i) + v (f i)) g
    rw [dot_add n (fun i => c * r (f i)) (fun i => v (f i)), dot_smul c n (fun i => r (f i)), ← hr r q, ← e]
theorem nv_appL {xs ys : List Nb} (j : Nat) : nv φ (xs ++ ys) j = if j < xs.length then nv φ xs j else nv φ ys (j - xs.length) := by
  unfold nv
  split
  · rename_i h; rw [List.getD_eq_getElem?_getD, List.getElem?_append_left h, ← List.getD_eq_getElem?_getD]
  · rename_i h; rw [List.getD_eq_getElem?_getD, List.getElem?_append_right (by (first | lia | omega)), ← List.getD_eq_getElem?_getD]
theorem nv_takeL {xs : List Nb} {m j : Nat} (h : j < m) : nv φ (xs.take m) j = nv φ xs j := by
  unfold nv
  rw [List.getD_eq_getElem?_getD, List.getElem?_take_of_lt h, ← List.getD_eq_getElem?_getD]
theorem nv_dropL {xs : List Nb} {m : Nat} (j : Nat) : nv φ (xs.drop m) j = nv φ xs (m + j) := by
  unfold nv
  rw [List.getD_eq_getElem?_getD, List.getElem?_drop, ← List.getD_eq_getElem?_getD]
/-! ### the table of ones -/
noncomputable def unitRow (k : Int) (n i : Nat) : List Nb := (List.range n).map fun j => if i = j then nnum k 1 else nnum k 0
noncomputable def unitM (k : Int) (n : Nat) : List (List Nb) := (List.range n).map (unitRow k n)
theorem unitRow_ok (hk : KindOk k) (n i : Nat) : (unitRow k n i).length = n ∧ OkR k (unitRow k n i) := by
  refine ⟨by unfold unitRow; simp, fun x hx => ?_⟩
  obtain ⟨j, _, rfl⟩ := List.mem_map.mp hx
  split
  · exact nnum_ok hk 1
  · exact nnum_ok hk 0
theorem unitM_get {i : Nat} (h : i < n) : (unitM k n)[i]? = some (unitRow k n i) := by unfold unitM; rw [List.getElem?_map, List.getElem?_range h]; rfl
theorem unitM_ok (hk : KindOk k) (n : Nat) : OkM k n (unitM k n) ∧ (unitM k n).length = n := by
  refine ⟨fun r hr => ?_, by unfold unitM; simp⟩
  obtain ⟨i, _, rfl⟩ := List.mem_map.mp hr
  exact unitRow_ok hk n i
theorem nv_unit {i : Nat} (hi : i < n) (j : Nat) : nv φ (unitRow k n i) j = unitF i 1 j := by
  unfold unitF
  rcases Nat.lt_or_ge j n with h | h
  · rw [nv_get φ (x := if i = j then nnum k 1 else nnum k 0) (by unfold unitRow; rw [List.getElem?_map, List.getElem?_range h]; rfl)]
    split
    · rename_i e; subst e; rw [if_pos rfl]; exact φ.num1
    · rename_i e; rw [if_neg (Ne.symm e)]; exact φ.num0
  · rw [nv_out φ (by unfold unitRow; simp; exact h), if_neg (by (first | lia | omega))]
/-! ### a table and its back: rows with the ones beside them -/
noncomputable def besideM (k : Int) (n : Nat) (M : List (List Nb)) : List (List Nb) := List.zipWith (· ++ ·) M (unitM k n)
theorem beside_get {M : List (List Nb)} (lM : M.length = n) {i : Nat} {m : List Nb} (h : M[i]? = some m) : (besideM k n M)[i]? = some (m ++ unitRow k n i) := by
  have hi : i < n := by rw [← lM]; exact (List.getElem?_eq_some_iff.mp h).1
  unfold besideM
  rw [List.getElem?_zipWith, h, unitM_get hi]
theorem beside_mem {M : List (List Nb)} (lM : M.length = n) {r : List Nb} (h : r ∈ besideM k n M) : ∃ i m, i < n ∧ M[i]? = some m ∧ r = m ++ unitRow k n i := by
  obtain ⟨i, hi, e⟩ := List.getElem_of_mem h
  have l : i < n := by
    unfold besideM at hi
    rw [List.length_zipWith] at hi
    (first | lia | omega)
  refine ⟨i, M[i], l, List.getElem?_eq_getElem (by (first | lia | omega)), ?_⟩
  have := beside_get (k := k) lM (List.getElem?_eq_getElem (show i < M.length by (first | lia | omega)))
  rw [List.getElem?_eq_getElem hi, e] at this
  exact Option.some.inj this
theorem beside_ok (hk : KindOk k) {M : List (List Nb)} (oM : OkM k n M) (lM : M.length = n) : OkM k (n + n) (besideM k n M) ∧ (besideM k n M).length = n := by
  refine ⟨fun r hr => ?_, by unfold besideM; rw [List.length_zipWith, (unitM_ok hk n).2]; (first | lia | omega)⟩
  obtain ⟨i, m, hi, hm, rfl⟩ := beside_mem lM hr
  have o := oM m (List.mem_of_getElem? hm)
  have u := unitRow_ok hk n i
  refine ⟨by rw [List.length_append, o.1, u.1], fun x hx => ?_⟩
  rcases List.mem_append.mp hx with h | h
  · exact o.2 x h
  · exact u.2 x h
theorem nv_beside (hk : KindOk k) {M : List (List Nb)} (oM : OkM k n M) {i : Nat} {m : List Nb} (h : M[i]? = some m) (hi : i < n) : (∀ j, j < n → nv φ (m ++ unitRow k n i) j = nv φ m j) ∧ ∀ t, nv φ (m ++ unitRow k n i) (n + t) = unitF i 1 t := by
  have o := oM m (List.mem_of_getElem? h)
  refine ⟨fun j hj => by rw [nv_appL, if_pos (by (first | lia | omega))], fun t => ?_⟩
  rw [nv_appL, if_neg (by (first | lia | omega)), o.1, Nat.add_sub_cancel_left, nv_unit hi]
/-- read by the ones: a combination's left part is by its right part -/
theorem beside_left (hk : KindOk k) {M : List (List Nb)} (oM : OkM k n M) (lM : M.length = n) {v : Nat → F} (hv : Rm φ (besideM k n M) v) {j : Nat} (hj : j < n) : v j = dot n (fun i => v (n + i)) (fun i => nv φ (M.getD i []) j) := by
  refine Span.read hv fun r ⟨x, hx, e⟩ => ?_
  obtain ⟨i, m, hi, hm, rfl⟩ := beside_mem lM hx
  obtain ⟨h1, h2⟩ := nv_beside (φ := φ) hk oM hm hi
  rw [e, h1 j hj, show (fun t => nv φ (m ++ unitRow k n i) (n + t)) = unitF i 1 from funext h2, dot_comm, dot_unit hi]
  have : M.getD i [] = m := by rw [List.getD_eq_getElem?_getD, hm]; rfl
  rw [this]; grind
/-- where the left block is the ones: a combination's right part is by its left part -/
theorem ones_right (hk : KindOk k) {R : List (List Nb)} (hU : R.map (List.take n) = unitM k n) {v : Nat → F} (hv : Rm φ R v) (t : Nat) : v (n + t) = dot n v (fun p => nv φ (R.getD p []) (n + t)) := by
  refine Span.read (f := fun p => p) hv fun r ⟨x, hx, e⟩ => ?_
  obtain ⟨p, hp, ep⟩ := List.getElem_of_mem hx
  have lR : R.length = n := by have := congrArg List.length hU; rw [List.length_map, (unitM_ok hk n).2] at this; exact this
  have hpn : p < n := by (first | lia | omega)
  have eu : x.take n = unitRow k n p := by
    have := congrArg (fun l => l[p]?) hU
    simp only [List.getElem?_map] at this
    rw [List.getElem?_eq_getElem hp, ep, unitM_get hpn] at this
    exact Option.some.inj this
  have : R.getD p [] = x := by rw [List.getD_eq_getElem?_getD, List.getElem?_eq_getElem hp, ep]; rfl
  rw [e]
  have h1 : dot n (fun i => nv φ x i) (fun p => nv φ (R.getD p []) (n + t)) = dot n (unitF p 1) (fun p => nv φ (R.getD p []) (n + t)) := dot_congr fun j hj => by rw [← nv_unit (φ := φ) hpn, ← eu, nv_takeL hj]
  rw [h1, dot_comm, dot_unit hpn, this]; grind
end
end La

namespace La
open Lean.Grind Nm
section
variable {k : Int} {F : Type} [Field F] {φ : Kf k F} {n : Nat}
theorem red_lenL (φ : Kf k F) (hk : KindOk k) {M R : List (List Nb)} {ls : List Nat} (oM : OkM k n M) (red : RedOf φ n M R ls) : R.length ≤ M.length := by
  have : ∃ Ws : List (List Int), Ws.length = M.length ∧ ∀ (i : Nat) (r : List Nb) (ws : List Int), M[i]? = some r → Ws[i]? = some ws → ∃ b, Scl k r ws b := by
    clear red
    induction M with
    | nil => exact ⟨[], rfl, fun i r ws h => by simp at h⟩
    | cons m M ih =>
      obtain ⟨Ws, l, h⟩ := ih fun r hr => oM r (List.mem_cons_of_mem _ hr)
      obtain ⟨b, hb⟩ := scl_exists hk (oM m List.mem_cons_self).2
      refine ⟨m.map (scW b) :: Ws, by simp [l], fun i r ws h1 h2 => ?_⟩
      cases i with
      | zero => simp at h1 h2; subst h1 h2; exact ⟨b, hb⟩
      | succ i => exact h i r ws (by simpa using h1) (by simpa using h2)
  obtain ⟨Ws, l, h⟩ := this
  have eR : R = redM k n Ws := red.unique (redM_of φ hk oM l h) (fun v q => q) (fun v q => q)
  have := swTo_len (k := k) Ws n
  rw [eR]; unfold redM; rw [List.length_map]; (first | lia | omega)
theorem range_of {ls : List Nat} (inc : ls.Pairwise (· < ·)) (all : ∀ p, p < n → p ∈ ls) (len : ls.length ≤ n) : ls = List.range n := by
  have h1 : ls.filter (fun x => decide (x < n)) = List.range n := sortedN_ext (inc.filter _) List.pairwise_lt_range (fun p hp => by
    rw [List.mem_filter] at hp; exact List.mem_range.mpr (of_decide_eq_true hp.2)) (fun q hq => by
    have := List.mem_range.mp hq
    rw [List.mem_filter]; exact ⟨all q this, decide_eq_true this⟩)
  have h2 := filter_parts (fun x => decide (x < n)) ls
  rw [h1, List.length_range] at h2
  have h3 : ls.filter (fun x => !decide (x < n)) = [] := List.eq_nil_of_length_eq_zero (by (first | lia | omega))
  rw [List.filter_eq_nil_iff] at h3
  rw [← h1]
  refine (List.filter_eq_self.mpr fun x hx => ?_).symm
  have := h3 x hx
  simpa using this
theorem lift_beside (hk : KindOk k) {M : List (List Nb)} (oM : OkM k n M) (lM : M.length = n) {v : Nat → F} (h : Rm φ M v) : ∃ w, Rm φ (besideM k n M) w ∧ ∀ j, j < n → w j = v j := by
  refine h.all (P := fun v => ∃ w, Rm φ (besideM k n M) w ∧ ∀ j, j < n → w j = v j) ⟨fun _ => 0, .zero, fun _ _ => rfl⟩ fun c r v ⟨x, hx, e⟩ ⟨w, hw, ew⟩ => ?_
  obtain ⟨i, hi, ei⟩ := List.getElem_of_mem hx
  have hg : M[i]? = some x := by rw [List.getElem?_eq_getElem hi, ei]
  have b := beside_get (k := k) lM hg
  refine ⟨fun j => c * nv φ (x ++ unitRow k n i) j + w j, .step c ⟨_, List.mem_of_getElem? b, rfl⟩ hw, fun j hj => ?_⟩
  dsimp only
  rw [(nv_beside (φ := φ) hk oM hg (by (first | lia | omega))).1 j hj, ew j hj, e]
theorem drop_beside (hk : KindOk k) {M : List (List Nb)} (oM : OkM k n M) (lM : M.length = n) {w : Nat → F} (h : Rm φ (besideM k n M) w) : ∃ v, Rm φ M v ∧ ∀ j, j < n → w j = v j := by
  refine h.all (P := fun w => ∃ v, Rm φ M v ∧ ∀ j, j < n → w j = v j) ⟨fun _ => 0, .zero, fun _ _ => rfl⟩ fun c r w ⟨x, hx, e⟩ ⟨v, hv, ev⟩ => ?_
  obtain ⟨i, m, hi, hm, rfl⟩ := beside_mem lM hx
  refine ⟨fun j => c * nv φ m j + v j, .step c ⟨_, List.mem_of_getElem? hm, rfl⟩ hv, fun j hj => ?_⟩
  dsimp only
  rw [e, (nv_beside (φ := φ) hk oM hm hi).1 j hj, ev j hj]
theorem rm_out {M : List (List Nb)} (oM : OkM k n M) {v : Nat → F} (h : Rm φ M v) {j : Nat} (hj : n ≤ j) : v j = 0 :=
  Span.zero_at h fun r ⟨x, hx, e⟩ => by rw [e, nv_out φ (by rw [(oM x hx).1]; exact hj)]
theorem full_ones (hk : KindOk k) {M R : List (List Nb)} {ls : List Nat} (oM : OkM k n M) (lM : M.length = n) (red : RedOf φ (n + n) (besideM k n M) R ls) (all : ∀ p, p < n → ∃ v, Rm φ M v ∧ (∀ j, j < p → v j = 0) ∧ v p ≠ 0) : R.map (List.take n) = unitM k n := by
  have lR := red_lenL φ hk (beside_ok hk oM lM).1 red
  rw [(beside_ok hk oM lM).2] at lR
  have h := red.toIsR
  have el : ls = List.range n := range_of h.inc (fun p hp => by
    obtain ⟨v, hv, z, ne⟩ := all p hp
    obtain ⟨w, hw, e⟩ := lift_beside hk oM lM hv
    exact (h.lead_iff p).mpr ⟨w, red.to w hw, fun j hj => by rw [e j (by (first | lia | omega)), z j hj], by rw [e p hp]; exact ne⟩) (by rw [h.len]; exact lR)
  have hl : R.length = n := by rw [← h.len, el, List.length_range]
  refine List.ext_getElem (by rw [List.length_map, hl, (unitM_ok hk n).2]) fun p h1 h2 => ?_
  have hp : p < n := by rw [List.length_map] at h1; (first | lia | omega)
  have e2 : (unitM k n)[p] = unitRow k n p := by
    have := unitM_get (k := k) hp
    rw [List.getElem?_eq_getElem h2] at this
    exact Option.some.inj this
  rw [List.getElem_map, e2]
  have o := h.ok _ (List.getElem_mem (show p < R.length by (first | lia | omega)))
  have u := unitRow_ok hk n p
  refine nv_inj φ (fun x hx => o.2 x (List.mem_of_mem_take hx)) u.2 (by rw [List.length_take, o.1, u.1]; (first | lia | omega)) fun j => ?_
  have lp : ∀ q, q < n → ls[q]? = some q := fun q hq => by rw [el, List.getElem?_range hq]
  rcases Nat.lt_or_ge j n with hj | hj
  · rw [nv_takeL hj, nv_unit hp]
    have m1 := h.get (lp p hp) (List.getElem?_eq_getElem (show p < R.length by (first | lia | omega)))
    have m2 := h.get (lp j hj) (List.getElem?_eq_getElem (show j < R.length by (first | lia | omega)))
    unfold unitF
    split
    · rename_i e; subst e; exact h.rr.one _ m1
    · rename_i e; exact h.rr.oth _ m1 _ m2 (Ne.symm e)
  · rw [nv_out φ (by rw [List.length_take]; (first | lia | omega)), nv_out φ (by rw [u.1]; exact hj)]
theorem unit_isR (φ : Kf k F) (hk : KindOk k) (n : Nat) : IsR φ n (unitM k n) (List.range n) := by
  have mem : ∀ p ∈ (List.range n).zip ((unitM k n).map (nv φ)), p.1 < n ∧ p.2 = unitF p.1 1 := fun p hp => by
    obtain ⟨i, hi, e⟩ := List.getElem_of_mem hp
    have hin : i < n := by rw [List.length_zip, List.length_range] at hi; (first | lia | omega)
    have : ((List.range n).zip ((unitM k n).map (nv φ)))[i]? = some (i, nv φ (unitRow k n i)) := by
      rw [List.getElem?_zip_eq_some]
      exact ⟨List.getElem?_range hin, by rw [List.getElem?_map, unitM_get hin]; rfl⟩
    rw [List.getElem?_eq_getElem hi, e] at this
    rw [Option.some.inj this]
    exact ⟨hin, funext fun j => nv_unit hin j⟩
  refine ⟨(unitM_ok hk n).1, by rw [List.length_range, (unitM_ok hk n).2], ?_, fun p hp => (mem p hp).1, fun p hp j hj => ?_, fun p hp j hj => ?_, fun p hp => ?_, fun p hp q hq ne => ?_⟩
  · rw [← List.pairwise_map (f := Prod.fst) (R := (· < ·)), List.map_fst_zip (by rw [List.length_map, List.length_range, (unitM_ok hk n).2]; exact Nat.le_refl _)]
    exact List.pairwise_lt_range
  · rw [(mem p hp).2]; unfold unitF; rw [if_neg (by have := (mem p hp).1; (first | lia | omega))]
  · rw [(mem p hp).2]; unfold unitF; rw [if_neg (by (first | lia | omega))]
  · rw [(mem p hp).2]; unfold unitF; rw [if_pos rfl]
  · rw [(mem p hp).2]; unfold unitF; rw [if_neg (Ne.symm ne)]
theorem less_not (hk : KindOk k) {M X R : List (List Nb)} {ls : List Nat} (oM : OkM k n M) (lM : M.length = n) (oX : OkM k n X) (lt : X.length < n) (sm : ∀ v, Rm φ M v → Rm φ X v) (red : RedOf φ (n + n) (besideM k n M) R ls) : R.map (List.take n) ≠ unitM k n := by
  intro hU
  have iU := unit_isR φ hk n
  have lR : R.length = n := by have := congrArg List.length hU; rw [List.length_map, (unitM_ok hk n).2] at this; exact this
  have to : ∀ v, Rm φ (unitM k n) v → Rm φ X v := fun v hv => hv.bind fun r ⟨x, hx, e⟩ => by
    obtain ⟨p, hp, rfl⟩ := List.mem_map.mp hx
    have hp := List.mem_range.mp hp
    have hR : R[p]? = some R[p] := List.getElem?_eq_getElem (show p < R.length by (first | lia | omega))
    obtain ⟨u, hu, eu⟩ := drop_beside hk oM lM (red.fro (nv φ R[p]) (.of ⟨R[p], List.mem_of_getElem? hR, rfl⟩))
    refine (sm u hu).cast fun j => ?_
    rw [e, nv_unit hp]
    rcases Nat.lt_or_ge j n with hj | hj
    · rw [← eu j hj, ← nv_takeL (m := n) hj]
      have : R[p].take n = unitRow k n p := by
        have := congrArg (fun l => l[p]?) hU
        simp only [List.getElem?_map] at this
        rw [hR, unitM_get hp] at this
        exact Option.some.inj this
      rw [this, nv_unit hp]
    · rw [rm_out oM hu hj]; unfold unitF; rw [if_neg (by (first | lia | omega))]
  have fro : ∀ v, Rm φ X v → Rm φ (unitM k n) v := fun v hv => by
    obtain ⟨u, hu, eu⟩ := iU.take_off v
    refine hu.cast fun j => ?_
    rcases Nat.lt_or_ge j n with hj | hj
    · exact eu j (List.mem_range.mpr hj)
    · rw [iU.supp hu j hj, rm_out oX hv hj]
  have := red_lenL φ hk oX { iU with to := fro, fro := to }
  rw [(unitM_ok hk n).2] at this
  (first | lia | omega)
end
end La

namespace La
open Lean.Grind Nm
section
variable {k : Int} {F : Type} [Field F] {φ : Kf k F}
/-! ### products put together -/
noncomputable def prodR (k : Int) (c : Nat) (M N : List (List Nb)) : List (List Nb) := M.map fun r => (trF c N).map fun col => ndot k r col
theorem trF_len (n : Nat) (M : List (List Nb)) : (trF n M).length = n := by unfold trF; simp
theorem trF_get {n i : Nat} {M : List (List Nb)} (h : i < n) : (trF n M)[i]? = some (M.map fun r => r.getD i (.z 0)) := by unfold trF; simp [h]
theorem col_ok {n j : Nat} {M : List (List Nb)} (h : OkM k n M) (hj : j < n) : (M.map fun r => r.getD j (.z 0)).length = M.length ∧ OkR k (M.map fun r => r.getD j (.z 0)) := by
  refine ⟨List.length_map _, fun x hx => ?_⟩
  obtain ⟨row, hrow, rfl⟩ := List.mem_map.mp hx
  obtain ⟨h1, h2⟩ := h row hrow
  have hj' : j < row.length := by (first | lia | omega)
  rw [List.getD_eq_getElem?_getD, List.getElem?_eq_getElem hj']
  exact h2 _ (List.getElem_mem hj')
theorem trF_ok {n : Nat} {M : List (List Nb)} (h : OkM k n M) : OkM k M.length (trF n M) := fun r hr => by
  unfold trF at hr
  obtain ⟨j, hj, rfl⟩ := List.mem_map.mp hr
  rw [List.mem_range] at hj
  exact col_ok h hj
theorem prodR_ok (hk : KindOk k) {b c : Nat} {M N : List (List Nb)} (oM : OkM k b M) (oN : OkM k c N) : (prodR k c M N).length = M.length ∧ OkM k c (prodR k c M N) := by
  refine ⟨by unfold prodR; rw [List.length_map], fun r hr => ?_⟩
  unfold prodR at hr
  obtain ⟨m, hm, rfl⟩ := List.mem_map.mp hr
  refine ⟨by rw [List.length_map, trF_len], fun x hx => ?_⟩
  obtain ⟨col, hcol, rfl⟩ := List.mem_map.mp hx
  exact ndot_ok hk (oM m hm).2 (trF_ok oN col hcol).2
end
end La

namespace La
open Lean.Grind Nm
section
variable {k : Int} {F : Type} [Field F] {φ : Kf k F}
/-! ### a table and its back, step by step -/
noncomputable def Unit2 (n : Nat) (T S : Nat → Nat → F) : Prop := ∀ p q, p < n → q < n → dot n (T p) (fun l => S l q) = if p = q then 1 else 0
/-- .. of lists -/
noncomputable def PairU (k : Int) (n : Nat) (T S : List (List Nb)) : Prop := ∀ (F : Type) [Field F] (φ : Kf k F), Unit2 n (fun p => nv φ (T.getD p [])) (fun l q => nv φ (S.getD l []) q)
theorem PairU.prod (hk : KindOk k) {n : Nat} {T S : List (List Nb)} (h : PairU k n T S) (oT : OkM k n T) (lT : T.length = n) (oS : OkM k n S) (lS : S.length = n) : prodR k n T S = unitM k n := by
  obtain ⟨F, _, _, ⟨φ⟩⟩ := field_of hk
  have lP := prodR_ok hk oT oS
  have lU := unitM_ok hk n
  refine List.ext_getElem? fun p => ?_
  rcases Nat.lt_or_ge p n with hp | hp
  · have hp' : p < T.length := by (first | lia | omega)
    unfold prodR
    rw [List.getElem?_map, List.getElem?_eq_getElem hp', unitM_get hp]
    show some _ = some _
    congr 1
    have oc := trF_ok oS
    have op := oT T[p] (List.getElem_mem hp')
    have ou := unitRow_ok hk n p
    refine nv_inj φ (fun x hx => ?_) ou.2 (by rw [List.length_map, trF_len, ou.1]) fun q => ?_
    · obtain ⟨col, hcol, rfl⟩ := List.mem_map.mp hx
      exact ndot_ok hk op.2 (oc col hcol).2
    · rcases Nat.lt_or_ge q n with hq | hq
      · rw [nv_get φ (x := ndot k T[p] (S.map fun r => r.getD q (.z 0))) (by rw [List.getElem?_map, trF_get hq]; rfl), nv_unit hp]
        have ocq := col_ok oS hq
        rw [ndot_to φ hk op.2 ocq.2 (by rw [op.1, ocq.1, lS]), op.1]
        have e : dot n (nv φ (T.getD p [])) (fun l => nv φ (S.getD l []) q) = if p = q then 1 else 0 := h F φ p q hp hq
        have gp : T.getD p [] = T[p] := by rw [List.getD_eq_getElem?_getD, List.getElem?_eq_getElem hp']; rfl
        rw [gp] at e
        have e2 : dot n (nv φ T[p]) (nv φ (S.map fun r => r.getD q (.z 0))) = dot n (nv φ T[p]) (fun l => nv φ (S.getD l []) q) := dot_congr fun l hl => by
          have hl' : l < S.length := by (first | lia | omega)
          have g : S[l]? = some S[l] := List.getElem?_eq_getElem hl'
          have ge : S.getD l [] = S[l] := by rw [List.getD_eq_getElem?_getD, g]; rfl
          rw [nv_tr φ oS hq g, ge]
        rw [e2, e]
        unfold unitF
        by_cases c : p = q
        · rw [if_pos c, if_pos c.symm]
        · rw [if_neg c, if_neg (Ne.symm c)]
      · rw [nv_out φ (by rw [List.length_map, trF_len]; exact hq), nv_out φ (by rw [ou.1]; exact hq)]
  · rw [List.getElem?_eq_none (by rw [lP.1]; (first | lia | omega)), List.getElem?_eq_none (by rw [lU.2]; exact hp)]
end
end La

namespace La
open Lean.Grind Nm
section
variable {k : Int} {F : Type} [Field F] {φ : Kf k F} {n : Nat}
theorem getD_mapR {S : List (List Nb)} {f : List Nb → List Nb} {l : Nat} (hl : l < S.length) : (S.map f).getD l [] = f (S.getD l []) := by
  rw [List.getD_eq_getElem?_getD, List.getElem?_map, List.getD_eq_getElem?_getD, List.getElem?_eq_getElem hl]; rfl
theorem nv_getD {xs : List Nb} {j : Nat} (hj : j < xs.length) : φ.to (xs.getD j (.z 0)) = nv φ xs j := by
  rw [nv_get φ (List.getElem?_eq_getElem hj), List.getD_eq_getElem?_getD, List.getElem?_eq_getElem hj]; rfl
theorem getD_okN {xs : List Nb} {j : Nat} (ox : OkR k xs) (hj : j < xs.length) : (xs.getD j (.z 0)).ok k := by
  rw [List.getD_eq_getElem?_getD, List.getElem?_eq_getElem hj]
  exact ox _ (List.getElem_mem hj)
theorem getD_get {S : List (List Nb)} {i : Nat} (hi : i < S.length) : S[i]? = some (S.getD i []) := by rw [List.getD_eq_getElem?_getD, List.getElem?_eq_getElem hi]; rfl
end
end La

namespace La
open Lean.Grind Nm
section
variable {k : Int}
/-! ### numbers added, sums of products put together -/
end
end La

namespace La
open Lean.Grind Nm
section
variable {F : Type} [Field F]
/-! ### tables as functions of two numbers -/
/-! ### sums -/
/-! ### marks -/
end
end La

namespace La
open Lean.Grind Nm
section
variable {k : Int} {n : Nat} {F : Type} [Field F] {φ : Kf k F}
/-! ### a table's back, as told -/
theorem drop_getD {R : List (List Nb)} {p : Nat} (hp : p < R.length) : (R.map (List.drop n)).getD p [] = (R.getD p []).drop n := getD_mapR hp
theorem back_ok {M R : List (List Nb)} {ls : List Nat} (hk : KindOk k) (red : RedOf φ (n + n) (besideM k n M) R ls) (hU : R.map (List.take n) = unitM k n) : OkM k n (R.map (List.drop n)) ∧ R.length = n := by
  have lR : R.length = n := by have := congrArg List.length hU; rw [List.length_map, (unitM_ok hk n).2] at this; exact this
  refine ⟨fun r hr => ?_, lR⟩
  obtain ⟨x, hx, rfl⟩ := List.mem_map.mp hr
  have o := red.ok x hx
  exact ⟨by rw [List.length_drop, o.1]; (first | lia | omega), fun y hy => o.2 y (List.mem_of_mem_drop hy)⟩
theorem row_of {R : List (List Nb)} {p : Nat} (hp : p < R.length) : Rm φ R (nv φ (R.getD p [])) := .of ⟨_, by rw [List.getD_eq_getElem?_getD, List.getElem?_eq_getElem hp]; exact List.getElem_mem hp, rfl⟩
theorem back_left {M R : List (List Nb)} {ls : List Nat} (hk : KindOk k) (oM : OkM k n M) (lM : M.length = n) (red : RedOf φ (n + n) (besideM k n M) R ls) (hU : R.map (List.take n) = unitM k n) : Unit2 n (fun p => nv φ ((R.map (List.drop n)).getD p [])) (fun l q => nv φ (M.getD l []) q) := fun p q hp hq => by
  have lR := (back_ok hk red hU).2
  have h := beside_left hk oM lM (red.fro _ (row_of (φ := φ) (R := R) (p := p) (by (first | lia | omega)))) hq
  have eu : (R.getD p []).take n = unitRow k n p := by
    have := congrArg (fun l => l[p]?) hU
    simp only [List.getElem?_map] at this
    rw [getD_get (by (first | lia | omega)), unitM_get hp] at this
    exact Option.some.inj this
  show dot n (nv φ ((R.map (List.drop n)).getD p [])) (fun l => nv φ (M.getD l []) q) = _
  rw [drop_getD (by (first | lia | omega))]
  have e : (fun i => nv φ ((R.getD p []).drop n) i) = fun i => nv φ (R.getD p []) (n + i) := funext fun i => nv_dropL i
  show dot n (fun i => nv φ ((R.getD p []).drop n) i) _ = _
  rw [e, ← h, ← nv_takeL (m := n) hq, eu, nv_unit hp]
  unfold unitF
  by_cases c : p = q
  · rw [if_pos c, if_pos c.symm]
  · rw [if_neg c, if_neg (fun z => c z.symm)]
theorem back_right {M R : List (List Nb)} {ls : List Nat} (hk : KindOk k) (oM : OkM k n M) (lM : M.length = n) (red : RedOf φ (n + n) (besideM k n M) R ls) (hU : R.map (List.take n) = unitM k n) : Unit2 n (fun p => nv φ (M.getD p [])) (fun l q => nv φ ((R.map (List.drop n)).getD l []) q) := fun p q hp hq => by
  have lR := (back_ok hk red hU).2
  have hm := getD_get (S := M) (i := p) (by (first | lia | omega))
  have hb := beside_get (k := k) lM hm
  have h := ones_right hk hU (red.to _ (.of ⟨_, List.mem_of_getElem? hb, rfl⟩)) q
  obtain ⟨h1, h2⟩ := nv_beside (φ := φ) hk oM hm hp
  rw [h2 q] at h
  have e1 : dot n (nv φ (M.getD p [] ++ unitRow k n p)) (fun p => nv φ (R.getD p []) (n + q)) = dot n (nv φ (M.getD p [])) (fun l => nv φ ((R.map (List.drop n)).getD l []) q) := dot_congr fun j hj => by
    rw [h1 j hj, drop_getD (by (first | lia | omega)), nv_dropL]
  show dot n (nv φ (M.getD p [])) (fun l => nv φ ((R.map (List.drop n)).getD l []) q) = _
  rw [← e1, ← h]
  unfold unitF
  by_cases c : p = q
  · rw [if_pos c, if_pos c.symm]
  · rw [if_neg c, if_neg (fun z => c z.symm)]
end
section
variable {k : Int} {n : Nat}
theorem back_pair {M R : List (List Nb)} {ls : List Nat} (hk : KindOk k) (oM : OkM k n M) (lM : M.length = n) (red : ∀ (F : Type) [Field F] (φ : Kf k F), RedOf φ (n + n) (besideM k n M) R ls) (hU : R.map (List.take n) = unitM k n) : PairU k n M (R.map (List.drop n)) ∧ PairU k n (R.map (List.drop n)) M :=
  ⟨fun F _ φ => back_right hk oM lM (red F φ) hU, fun F _ φ => back_left hk oM lM (red F φ) hU⟩
/-! ### the unit turned about -/
end
end La

namespace L2
open PySem PySem.Spec PyProof.Rows Nm
/-! ### // of any size -/
noncomputable def TopOk (X : Cx) : Prop := ∃ env l, X.stack = env :: l ∧ env.scope.isGenerator = false ∧ env.scope.isCoroutine = false ∧ env.builtins = builtinsNs ∧ env.globals = mainGlobals
theorem op_fdivU {X : Cx} {k : Nat} (hr : Room k X.A) (hk : 40 ≤ k) (hP : X.prog.given.tree = none) (hS : X.base.NoSeer) (hT : TopOk X) : OpR X (binaryOp .FloorDiv) (rI (fun _ j => j ≠ 0) fun i j => .int (i.fdiv j)) := by
  intro pins s σ H x y v u Q I rx ry h
  obtain ⟨i, j, rfl, rfl, hc, q⟩ := h
  obtain ⟨t, rfl⟩ := rx
  obtain ⟨t', rfl⟩ := ry
  obtain ⟨env, l, e, h1, h2, h3, h4⟩ := hT
  have hd : X.A.depth + Builtin.pylongFrames < recursionLimit := by
    have := hr.dp
    have : Builtin.pylongFrames = 100 := rfl
    (first | lia | omega)
  exact floordiv_int hc ⟨.int (i.fdiv j), H, I.tok _, ⟨_, rfl⟩, q⟩ (.inr (PylongRoom.of I.nolimit hd (SeerAt.of (hS.keeps I.bk) hP (I.ok.frames.trans (congrArg some e)) h1 h2 h3 h4)))
/-! ### rows of whole numbers, fresh rows and tables -/
noncomputable def IRow (H : Hp) (ws : List Int) (a : Addr) : Prop := H a = some (.lst (ws.map V.int))
theorem IRow.mono {H H' : Hp} {ws : List Int} {a : Addr} (h : IRow H ws a) (g : Same H H') : IRow H' ws a := g _ _ h
/-- a table made anew: rows of their own -/
structure NewT (H H' : Hp) (M : List (List Nb)) (top : Addr) (ras : List Addr) : Prop where
  tab : TabAt H' M top ras
  ft : H top = none
  fr : ∀ r ∈ ras, H r = none
  nd : ras.Nodup
  nt : top ∉ ras
theorem Same.none {H H' : Hp} (g : Same H H') {p : Addr} (h : H' p = none) : H p = none := by
  cases e : H p with
  | none => rfl
  | some u => rw [g _ _ e] at h; cases h
theorem same_upd {H H' : Hp} {p : Addr} {o : HO} (g : Same H H') (h : H p = none) : Same H (upd H' p o) := fun b u q => by
  rw [upd_ne (ne_of_none q h)]; exact g _ _ q
theorem RowAt.len {H : Hp} {xs : List Nb} {a : Addr} (h : RowAt H xs a) : ∃ vs, H a = some (.lst vs) ∧ Paired (RN H) xs vs ∧ vs.length = xs.length :=
  let ⟨vs, h1, h2⟩ := h
  ⟨vs, h1, h2, (pd_len h2).symm⟩
theorem pd_of {α β : Type} {R : α → β → Prop} : ∀ {xs : List α} {ys : List β}, xs.length = ys.length → (∀ (i : Nat) (a : α) (b : β), xs[i]? = some a → ys[i]? = some b → R a b) → Paired R xs ys
  | [], [], _, _ => .nil
  | [], _ :: _, h, _ => by simp at h
  | _ :: _, [], h, _ => by simp at h
  | a :: xs, b :: ys, h, f => .cons (f 0 a b rfl rfl) (pd_of (by simpa using h) fun i x y h1 h2 => f (i + 1) x y (by simpa using h1) (by simpa using h2))
theorem pd_get {α β : Type} {R : α → β → Prop} {xs : List α} {ys : List β} {i : Nat} {a : α} {b : β} (h : Paired R xs ys) (h1 : xs[i]? = some a) (h2 : ys[i]? = some b) : R a b := by
  obtain ⟨b', e, r⟩ := pd_left h h1
  rw [h2] at e; cases e; exact r
/-! ### sizes -/
theorem sm_one : Sm 1 1 := by unfold Sm; decide
theorem sm_zero (n : Nat) : Sm n 0 := by unfold Sm; exact Nat.pow_pos (by decide)
theorem sm_fdiv {n : Nat} {w d : Int} (h : Sm n w) (hd : d ∣ w) : Sm n (w.fdiv d) := by
  rw [Int.fdiv_eq_ediv_of_dvd hd]
  by_cases z : d = 0
  · subst z; rw [Int.ediv_zero]; exact sm_zero n
  · have e := Int.ediv_mul_cancel hd
    refine h.le ?_
    have h1 : (w / d * d).natAbs = w.natAbs := by rw [e]
    rw [Int.natAbs_mul] at h1
    rw [← h1]
    exact Nat.le_mul_of_pos_right _ (Int.natAbs_pos.mpr z)
theorem sm_fmod {n : Nat} {w k : Int} (k0 : 0 < k) (k9 : k < 99) (hn : 7 ≤ n) : Sm n (w.fmod k) :=
  (sm_rest (Int.fmod_nonneg_of_pos w k0) (Int.fmod_lt_of_pos w k0) k9).mono hn
theorem nsm_num {n : Nat} {k w : Int} (hk : KindOk k) (h : Sm n w) (hn : 7 ≤ n) : nsm n (nnum k w) := by
  unfold nnum
  split
  · exact ⟨h, Sm.mono (m := 1) sm_one (by (first | lia | omega))⟩
  · rename_i k0
    exact sm_fmod (by have := hk.lt; (first | lia | omega)) hk.lt.2 hn
/-! ### (a, b, ..) = a list of that length -/
/-! ### lcm, by steps -/
theorem lcm_step {b d : Int} (hb : 0 < b) (hd : 0 < d) : 0 < b.fdiv ((Int.gcd b d : Nat) : Int) * d ∧ b ∣ b.fdiv ((Int.gcd b d : Nat) : Int) * d ∧ d ∣ b.fdiv ((Int.gcd b d : Nat) : Int) * d ∧ ((Int.gcd b d : Nat) : Int) ≠ 0 := by
  have g0 : 0 < ((Int.gcd b d : Nat) : Int) := by have := Int.gcd_pos_of_ne_zero_left d (show b ≠ 0 by (first | lia | omega)); (first | lia | omega)
  have db : ((Int.gcd b d : Nat) : Int) ∣ b := Int.gcd_dvd_left b d
  have dd : ((Int.gcd b d : Nat) : Int) ∣ d := Int.gcd_dvd_right b d
  have e1 := La.fdiv_dvd db (by (first | lia | omega))
  have e2 := La.fdiv_dvd dd (by (first | lia | omega))
  have p1 : 0 < b.fdiv ((Int.gcd b d : Nat) : Int) := by
    rcases Int.lt_trichotomy 0 (b.fdiv ((Int.gcd b d : Nat) : Int)) with h | h | h
    · exact h
    · rw [← h] at e1; (first | lia | omega)
    · have := Int.mul_neg_of_neg_of_pos h g0; (first | lia | omega)
  refine ⟨Int.mul_pos p1 hd, ⟨d.fdiv ((Int.gcd b d : Nat) : Int), ?_⟩, Int.dvd_mul_left _ _, by (first | lia | omega)⟩
  generalize b.fdiv ((Int.gcd b d : Nat) : Int) = x at *
  generalize d.fdiv ((Int.gcd b d : Nat) : Int) = y at *
  generalize ((Int.gcd b d : Nat) : Int) = g at *
  rw [← e1, ← e2]
  grind
/-- by rests a row is one of ints -/
theorem row_rests {k : Int} {H : Hp} (k0 : k ≠ 0) : ∀ {xs : List Nb} {vs : List V}, La.OkR k xs → Paired (RN H) xs vs → ∃ is : List Int, xs = is.map Nb.z ∧ vs = is.map V.int
  | _, _, _, .nil => ⟨[], rfl, rfl⟩
  | x :: xs, v :: vs, h, .cons r t => by
    obtain ⟨is, e1, e2⟩ := row_rests k0 (fun y hy => h y (List.mem_cons_of_mem _ hy)) t
    have hx := h x List.mem_cons_self
    cases x with
    | q a => exact absurd hx k0
    | z i => exact ⟨i :: is, by rw [e1]; rfl, by rw [e2, r.z]; rfl⟩
theorem scl_rests {k : Int} (k0 : k ≠ 0) (is : List Int) : La.Scl k (is.map Nb.z) is 1 :=
  ⟨by rw [List.map_map]; exact (List.map_id'' (fun _ => rfl) is).symm, by decide, fun _ => rfl, fun x hx => by
    obtain ⟨i, _, rfl⟩ := List.mem_map.mp hx
    trivial⟩
/-! ### tables that grow -/
theorem RN.upd {H : Hp} {x : Nb} {v : V} {t : Addr} {zs zs' : List V} (h : RN H x v) (ht : H t = some (.lst zs)) : RN (upd H t (.lst zs')) x v := by
  cases x with
  | q r =>
    obtain ⟨a, rfl, ha⟩ := h.q
    exact RN.of_q (by rw [upd_ne (fun e => by rw [e, ht] at ha; cases ha)]; exact ha)
  | z i => rw [h.z]; exact RN.of_z
theorem RowAt.upd {H : Hp} {xs : List Nb} {a t : Addr} {zs zs' : List V} (h : RowAt H xs a) (ne : a ≠ t) (ht : H t = some (.lst zs)) : RowAt (upd H t (.lst zs')) xs a :=
  let ⟨vs, h1, h2⟩ := h
  ⟨vs, by rw [upd_ne ne]; exact h1, pd_imp (fun _ _ r => r.upd ht) h2⟩
theorem RowAt.some {H : Hp} {xs : List Nb} {a : Addr} (h : RowAt H xs a) : ∃ o, H a = some o := let ⟨vs, h1, _⟩ := h; ⟨_, h1⟩
structure Grow (H H' : Hp) (M : List (List Nb)) (ras : List Addr) : Prop where
  same : Same H H'
  rows : Paired (RowAt H') M ras
  fr : ∀ r ∈ ras, H r = none
  nd : ras.Nodup
theorem Grow.nil (H : Hp) {H' : Hp} (g : Same H H') : Grow H H' [] [] := ⟨g, .nil, fun _ h => (nomatch h), .nil⟩
section
variable {H H' H2 : Hp} {M : List (List Nb)} {ras : List Addr}
theorem Grow.mono (G : Grow H H' M ras) (g : Same H' H2) : Grow H H2 M ras := ⟨G.same.trans g, pd_imp (fun _ _ r => r.mono g) G.rows, G.fr, G.nd⟩
theorem Grow.not_mem (G : Grow H H' M ras) {p : Addr} (hp : H' p = none) : p ∉ ras := fun hm => by
  obtain ⟨xs, _, h⟩ := pd_mem G.rows hm
  obtain ⟨o, e⟩ := h.some
  rw [hp] at e; cases e
theorem Grow.snoc (G : Grow H H' M ras) {xs : List Nb} {vs : List V} {p : Addr} (hp : H' p = none) (hr : Paired (RN H') xs vs) : Grow H (upd H' p (.lst vs)) (M ++ [xs]) (ras ++ [p]) := by
  have g := same_new hp (.lst vs)
  have G' := G.mono g
  refine ⟨G'.same, pd_snoc G'.rows ⟨vs, upd_same, pd_rn g hr⟩, fun r hr' => ?_, ?_⟩
  · rcases List.mem_append.mp hr' with h | h
    · exact G.fr r h
    · rw [List.mem_singleton.mp h]; exact G.same.none hp
  · rw [List.nodup_append]
    refine ⟨G.nd, by simp, fun a ha b hb => ?_⟩
    rw [List.mem_singleton.mp hb]
    exact fun e => G.not_mem hp (by rw [← e]; exact ha)
theorem Grow.done (G : Grow H H' M ras) {top : Addr} (ht : H' top = none) : NewT H (upd H' top (.lst (ras.map V.ref))) M top ras :=
  ⟨⟨upd_same, pd_imp (fun _ _ r => r.mono (same_new ht _)) G.rows⟩, G.same.none ht, G.fr, G.nd, G.not_mem ht⟩
/-- a row is made and appended to the table at t -/
theorem Grow.push (G : Grow H H' M ras) {t p : Addr} {xs : List Nb} {vs zs zs' : List V} (tn : H t = none) (ht : H' t = some (.lst zs)) (tr : t ∉ ras) (g : Same H' H2) (hp : H2 p = none) (hr : Paired (RN H2) xs vs) :
    Grow H (upd (upd H2 p (.lst vs)) t (.lst zs')) (M ++ [xs]) (ras ++ [p]) ∧ t ∉ ras ++ [p] := by
  have G1 := (G.mono g).snoc hp hr
  have ht2 : H2 t = some (.lst zs) := g _ _ ht
  have tp : t ≠ p := fun e => by rw [e, hp] at ht2; cases ht2
  have ht3 : upd H2 p (.lst vs) t = some (.lst zs) := by rw [upd_ne tp]; exact ht2
  have nm : t ∉ ras ++ [p] := fun h => by
    rcases List.mem_append.mp h with h | h
    · exact tr h
    · exact tp (List.mem_singleton.mp h)
  refine ⟨⟨same_upd G1.same tn, ?_, G1.fr, G1.nd⟩, nm⟩
  refine pd_of (pd_len G1.rows) fun i x a h1 h2 => (pd_get G1.rows h1 h2).upd (fun e => nm ?_) ht3
  rw [← e]
  exact List.mem_of_getElem? h2
end
/-- rows of whole numbers over one bottom, as the program keeps them -/
noncomputable def SclAt (H : Hp) (k : Int) (m : Nat) (xs : List Nb) (p : Addr) : Prop := ∃ l ws b, H p = some (.tup [.ref l, .int b]) ∧ IRow H ws l ∧ La.Scl k xs ws b ∧ Sm m b ∧ ∀ w ∈ ws, Sm m w
/-- columns as rows -/
noncomputable def transp (n : Nat) (M : List (List Nb)) : List (List Nb) := (List.range n).map fun j => M.map fun r => r.getD j (.z 0)
theorem transp_len (n : Nat) (M : List (List Nb)) : (transp n M).length = n := by unfold transp; simp
theorem transp_ok {k : Int} {n : Nat} {M : List (List Nb)} (h : La.OkM k n M) : La.OkM k M.length (transp n M) := fun r hr => by
  unfold transp at hr
  obtain ⟨j, hj, rfl⟩ := List.mem_map.mp hr
  rw [List.mem_range] at hj
  refine ⟨List.length_map _, fun x hx => ?_⟩
  obtain ⟨row, hrow, rfl⟩ := List.mem_map.mp hx
  obtain ⟨h1, h2⟩ := h row hrow
  have hj' : j < row.length := by (first | lia | omega)
  rw [List.getD_eq_getElem?_getD, List.getElem?_eq_getElem hj']
  exact h2 _ (List.getElem_mem hj')
noncomputable def prodM (k : Int) (c : Nat) (M N : List (List Nb)) : List (List Nb) := M.map fun r => (transp c N).map fun col => La.ndot k r col
theorem tyes {σ : St} {H : Hp} {A B : Hp → Prop} (h : A H) : tTrue σ H fun b H3 => if b = true then A H3 else B H3 := by
  show if true = true then A H else B H
  exact iteT h
theorem gyes {i : Nat} {x : V} {σ : St} {H : Hp} {A B : St → Hp → Prop} (h : A (σ.set i (some x)) H) : gName i x σ H fun σ2 H2 => tTrue σ2 H2 fun b H3 => if b = true then A σ2 H3 else B σ2 H3 := by
  show if true = true then A (σ.set i (some x)) H else B (σ.set i (some x)) H
  exact iteT h
/-- [list(row) for row in table] -/
theorem comp_copy {K : PySem.W.Frag} {te : TE} {σb : St} {t : Addr} {ras : List Addr} {M : List (List Nb)} {H : Hp} {R : List V → Hp → Prop} (hT : TabAt H M t ras) (hz : M.length < sizeLine)
    (hte : ∀ (a : Addr) (us : List V) (H' : Hp) (Q : VK), H' a = some (.lst us) → (∀ l, H' l = none → Q (.ref l) (upd H' l (.lst us))) → te (σb.set 0 (some (.ref a))) H' Q)
    (hd : ∀ (ras2 : List Addr) (H' : Hp), Grow H H' M ras2 → R (ras2.map V.ref) H') :
    ∃ W : Nat → Nat → List V → Hp → Prop, (∃ m, W 0 m [] H) ∧ ∀ i m ys H, W i m ys H →
      ((Itl K t).stop i H ∧ ys.length ≤ sizeLine ∧ R ys H) ∨
      ((Itl K t).go i H ∧ ys.length < sizeLine ∧ ∀ x H', (Itl K t).yld i H x H' → gName 0 x σb H' fun σ2 H2 => tTrue σ2 H2 fun b H3 => if b = true then te σ2 H3 fun y H4 => ∃ m', m' < m ∧ W (i + 1) m' (ys ++ [y]) H4 else ∃ m', m' < m ∧ W (i + 1) m' ys H3) := by
  have hl := pd_len hT.2
  refine comp_list (xs := ras.map V.ref) (fun i ys H' => ∃ ras2, ys = ras2.map V.ref ∧ Grow H H' (M.take i) ras2) ⟨[], rfl, Grow.nil H (Same.refl H)⟩ ?_ ?_ ?_
  · rintro i ys H' hi ⟨ras2, rfl, G⟩
    refine ⟨SqL.of (G.same _ _ hT.1), ?_⟩
    have := pd_len G.rows
    rw [List.length_take] at this
    rw [List.length_map]; (first | lia | omega)
  · rintro i v ys H' hv hi ⟨ras2, rfl, G⟩
    obtain ⟨xs, a, hx, ha, rfl, hrow⟩ := (hT.mono G.same).row hv
    obtain ⟨us, hu, pu, lu⟩ := hrow.len
    refine gyes ?_
    refine hte a us H' _ hu fun l hl' => ?_
    refine nxt hi ⟨ras2 ++ [l], by rw [List.map_append]; rfl, ?_⟩
    rw [take_snoc hx]
    exact G.snoc hl' pu
  · rintro ys H' ⟨ras2, rfl, G⟩
    rw [List.length_map, List.take_of_length_le (by (first | lia | omega))] at G
    exact hd ras2 H' G
/-! ### rules by the written part itself (within a block X.K would name the block) -/
section
variable {X : Cx} {K : PySem.W.Frag}
theorem ix_listK (hK : X.K = K) : IxR X (rIxL K) := hK ▸ ix_list
theorem sl_listK (hK : X.K = K) : SlR X (rSlL K) := hK ▸ sl_list
theorem call_lenK (hK : X.K = K) : CallR X (.builtin "len") (fun xs H Q => ∃ p ys, xs = [.ref p] ∧ (SqL K H p ys ∨ SqT K H p ys) ∧ Q (.int ys.length) H) := hK ▸ call_len_seq
theorem call_listK (hK : X.K = K) : CallR X (.type "list") (fun xs H Q => ∃ p ys, xs = [.ref p] ∧ (SqL K H p ys ∨ SqT K H p ys) ∧ ∀ l, H l = none → Q (.ref l) (upd H l (.lst ys))) := hK ▸ call_list_of
theorem call_isiK (hK : X.K = K) : CallR X (.builtin "isinstance") (rIsi K) := hK ▸ call_isi
theorem call_sumK (hc : X.calm = true) (hK : X.K = K) : CallR X (.builtin "sum") (fun xs H Q => ∃ p ns, xs = [.ref p] ∧ SqL K H p ((ns : List Int).map V.int) ∧ Q (.int ns.sum) H) := hK ▸ call_sumI hc
theorem pi_listK {tg l : Expr} {tl : TE} (hK : X.K = K) (hl : PE X l tl) : PI X tg l (iList K tl) := hK ▸ pi_list hl
theorem pg_tupK {pos : Pos} {es : List Expr} {k : Nat} {t : TGs} (n : Nat) (hK : X.K = K) (hc : X.calm = true) (h : PGs X es t)
    (hn : (assignEach es X.env).length = n := by rfl) (hst : (assignEach es X.env).findIdx? (·.1) = none := by rfl) : PG X (.Tuple es k pos) (gTup K n t) := hK ▸ pg_tup hc h hn hst
end
end L2

namespace L2
open PySem PySem.Spec PyProof.Rows Nm
/-! ### lists of rows of whole numbers -/
noncomputable def IRs (H : Hp) (Ws : List (List Int)) (t : Addr) (ras : List Addr) : Prop := H t = some (.lst (ras.map V.ref)) ∧ Paired (IRow H) Ws ras
theorem pd_ir {H H' : Hp} (g : Same H H') {Ws : List (List Int)} {ras : List Addr} (h : Paired (IRow H) Ws ras) : Paired (IRow H') Ws ras := pd_imp (fun _ _ r => r.mono g) h
theorem IRs.mono {H H' : Hp} {Ws : List (List Int)} {t : Addr} {ras : List Addr} (h : IRs H Ws t ras) (g : Same H H') : IRs H' Ws t ras := ⟨g _ _ h.1, pd_ir g h.2⟩
theorem IRs.row {H : Hp} {Ws : List (List Int)} {t : Addr} {ras : List Addr} {i : Nat} {v : V} (h : IRs H Ws t ras) (e : (ras.map V.ref)[i]? = some v) : ∃ ws a, Ws[i]? = some ws ∧ ras[i]? = some a ∧ v = .ref a ∧ IRow H ws a := by
  rw [List.getElem?_map] at e
  obtain ⟨a, ha, rfl⟩ := Option.map_eq_some_iff.mp e
  obtain ⟨xs, hx, r⟩ := pd_right h.2 ha
  exact ⟨xs, a, hx, ha, rfl, r⟩
theorem IRow.ne {H : Hp} {ws : List Int} {a t : Addr} {rs : List Addr} (h : IRow H ws a) (hw : ws ≠ []) (ht : H t = some (.lst (rs.map V.ref))) : a ≠ t := fun e => by
  subst e
  unfold IRow at h
  rw [ht] at h
  cases ws with
  | nil => exact hw rfl
  | cons w ws =>
    cases rs with
    | nil => cases h
    | cons r rs => cases h
theorem pd_ir_upd {H : Hp} {t : Addr} {rs : List Addr} {o : HO} (ht : H t = some (.lst (rs.map V.ref))) {Ws : List (List Int)} {ras : List Addr} (h : Paired (IRow H) Ws ras) (hw : ∀ ws ∈ Ws, ws ≠ []) : Paired (IRow (upd H t o)) Ws ras :=
  pd_of (pd_len h) fun i ws a h1 h2 => by
    have r := pd_get h h1 h2
    show upd H t o a = _
    rw [upd_ne (r.ne (hw ws (List.mem_of_getElem? h1)) ht)]; exact r
theorem irow_at {H : Hp} {ws : List Int} {a : Addr} {j : Nat} (h : IRow H ws a) (hj : j < ws.length) : atI (ws.map V.int) (0 + (j : Int)) = some (.int (ws.getD j 0)) := by
  rw [Int.zero_add]
  refine atI_nat ?_
  rw [List.getElem?_map, List.getD_eq_getElem?_getD, List.getElem?_eq_getElem hj]; rfl
theorem cut1 (xs : List V) : cutV xs (some 1) none = xs.drop 1 := by
  unfold cutV
  cases xs with
  | nil => rfl
  | cons x xs =>
    rw [show (1 : Int) = ((1 : Nat) : Int) from rfl, HT.sIx_nat, HT.sIx_none]
    simp
/-! ### sizes of what is swept -/
noncomputable def SzS (b : Nat) (s : List (Nat × List Int) × List (List Int)) : Prop := (∀ p ∈ s.1, ∀ w ∈ p.2, Sm b w) ∧ ∀ r ∈ s.2, ∀ w ∈ r, Sm b w
theorem eased_sz {k : Int} (hk : KindOk k) {b : Nat} (h7 : 7 ≤ b) {ws : List Int} (h : ∀ w ∈ ws, Sm b w) : ∀ w ∈ La.easedM k ws, Sm b w := fun w hw => by
  unfold La.easedM at hw
  split at hw
  · rename_i k0
    obtain ⟨x, _, rfl⟩ := List.mem_map.mp hw
    exact sm_fmod (by have := hk.lt; (first | lia | omega)) hk.lt.2 h7
  · split at hw
    · exact h w hw
    · obtain ⟨x, hx, rfl⟩ := List.mem_map.mp hw
      exact sm_fdiv (h x hx) (La.gcdL_dvd hx)
theorem getD_sz {b : Nat} {ws : List Int} (h : ∀ w ∈ ws, Sm b w) (c : Nat) : Sm b (ws.getD c 0) := by
  rcases Nat.lt_or_ge c ws.length with g | g
  · rw [List.getD_eq_getElem?_getD, List.getElem?_eq_getElem g]; exact h _ (List.getElem_mem g)
  · rw [List.getD_eq_getElem?_getD, List.getElem?_eq_none g]; exact sm_zero b
theorem mixed_sz {b : Nat} {row lead : List Int} (hl : row.length = lead.length) (h1 : ∀ w ∈ row, Sm b w) (h2 : ∀ w ∈ lead, Sm b w) (c : Nat) : ∀ w ∈ La.mixed row lead c, Sm (2 * b + 1) w := fun w hw => by
  obtain ⟨j, hj, e⟩ := List.getElem_of_mem hw
  have e2 := La.mixed_getD hl c j
  rw [List.getD_eq_getElem?_getD, List.getElem?_eq_getElem hj] at e2
  have e3 : w = lead.getD c 0 * row.getD j 0 - row.getD c 0 * lead.getD j 0 := by rw [← e, ← e2]; rfl
  rw [e3]
  exact (((getD_sz h2 c).mul (getD_sz h1 j)).sub ((getD_sz h1 c).mul (getD_sz h2 j))).mono (by (first | lia | omega))
theorem cleared_sz {k : Int} (hk : KindOk k) {b : Nat} (h7 : 7 ≤ b) {row lead : List Int} (hl : row.length = lead.length) (h1 : ∀ w ∈ row, Sm b w) (h2 : ∀ w ∈ lead, Sm b w) (c : Nat) : ∀ w ∈ La.clearedM k lead c row, Sm (2 * b + 1) w := by
  unfold La.clearedM
  split
  · exact fun w hw => (h1 w hw).mono (by (first | lia | omega))
  · exact eased_sz hk (by (first | lia | omega)) (mixed_sz hl h1 h2 c)
theorem SzS.turn {k : Int} (hk : KindOk k) {n c b : Nat} (h7 : 7 ≤ b) {s : List (Nat × List Int) × List (List Int)} (f : La.Fine k n s) (h : SzS b s) : SzS (2 * b + 1) (La.swTurn k c s) := by
  unfold La.swTurn
  cases e : s.2.filter (fun r => decide (r.getD c 0 ≠ 0)) with
  | nil => exact ⟨fun p hp w hw => (h.1 p hp w hw).mono (by (first | lia | omega)), fun p hp w hw => (h.2 p hp w hw).mono (by (first | lia | omega))⟩
  | cons l rest =>
    have sub : ∀ r ∈ l :: rest, r ∈ s.2 := fun r hr => by rw [← e] at hr; exact (List.mem_filter.mp hr).1
    have hl := sub l List.mem_cons_self
    refine ⟨fun p hp => ?_, fun r hr => ?_⟩
    · rcases List.mem_append.mp hp with hp | hp
      · obtain ⟨q, hq, rfl⟩ := List.mem_map.mp hp
        exact cleared_sz hk h7 (by rw [f.dl q hq, f.wl l hl]) (h.1 q hq) (h.2 l hl) c
      · rw [List.mem_singleton.mp hp]
        exact fun w hw => (h.2 l hl w hw).mono (by (first | lia | omega))
    · rcases List.mem_append.mp hr with hr | hr
      · exact fun w hw => (h.2 r (List.mem_filter.mp hr).1 w hw).mono (by (first | lia | omega))
      · obtain ⟨q, hq, rfl⟩ := List.mem_map.mp hr
        have hq2 := sub q (List.mem_cons_of_mem _ hq)
        exact cleared_sz hk h7 (by rw [f.wl q hq2, f.wl l hl]) (h.2 q hq2) (h.2 l hl) c
theorem sz_to {k : Int} (hk : KindOk k) {n b : Nat} (h7 : 7 ≤ b) {rows : List (List Int)} (hl : ∀ r ∈ rows, r.length = n) (h : ∀ r ∈ rows, ∀ w ∈ r, Sm b w) : ∀ c, SzS ((b + 1) * 2 ^ c - 1) (La.swTo k rows c)
  | 0 => ⟨fun p hp => (nomatch hp), fun r hr w hw => by
      obtain ⟨x, hx, rfl⟩ := List.mem_map.mp hr
      exact (eased_sz hk h7 (h x hx) w hw).mono (by (first | lia | omega))⟩
  | c + 1 => by
    have ih := sz_to hk h7 hl h c
    have h1 : 2 ^ c ≥ 1 := Nat.one_le_two_pow
    have h2 : (b + 1) * 1 ≤ (b + 1) * 2 ^ c := Nat.mul_le_mul_left _ h1
    have e : (b + 1) * 2 ^ (c + 1) - 1 = 2 * ((b + 1) * 2 ^ c - 1) + 1 := by
      rw [Nat.pow_succ]
      have : (b + 1) * (2 ^ c * 2) = (b + 1) * 2 ^ c * 2 := by rw [Nat.mul_assoc]
      (first | lia | omega)
    rw [e]
    exact SzS.turn hk (by (first | lia | omega)) (La.Fine.to hk.lt.1 hl c) ih
end L2

namespace L2
open PySem PySem.Spec PyProof.Rows Nm
theorem pd_set {α β : Type} {R : α → β → Prop} {xs : List α} {ys : List β} (h : Paired R xs ys) (i : Nat) {a : α} {b : β} (r : R a b) : Paired R (xs.set i a) (ys.set i b) := by
  refine pd_of (by rw [List.length_set, List.length_set]; exact pd_len h) fun j x y h1 h2 => ?_
  by_cases e : i = j
  · subst e
    have l1 : i < xs.length := by have := (List.getElem?_eq_some_iff.mp h1).1; rw [List.length_set] at this; exact this
    have l2 : i < ys.length := by rw [← pd_len h]; exact l1
    rw [List.getElem?_set_self l1] at h1
    rw [List.getElem?_set_self l2] at h2
    cases h1; cases h2; exact r
  · rw [List.getElem?_set_ne e] at h1 h2
    exact pd_get h h1 h2
/-- t[i] = a row -/
theorem TabAt.setRow {H : Hp} {M : List (List Nb)} {t : Addr} {ras : List Addr} {i : Nat} {xs : List Nb} {a : Addr} (hT : TabAt H M t ras) (hr : RowAt H xs a) (na : a ≠ t) (nt : t ∉ ras) : TabAt (upd H t (.lst ((ras.map V.ref).set i (.ref a)))) (M.set i xs) t (ras.set i a) := by
  refine ⟨by rw [upd_same, List.map_set], ?_⟩
  refine pd_of (by rw [List.length_set, List.length_set]; exact pd_len hT.2) fun j x b h1 h2 => ?_
  have r := pd_get (pd_set hT.2 i hr) h1 h2
  refine r.upd (fun e => ?_) hT.1
  subst e
  rcases La.mem_set_or (List.mem_of_getElem? h2) with e | e
  · exact na e.symm
  · exact nt e
theorem ixN_nat {n j : Nat} (h : j < n) : ixN n (j : Int) = some j := by
  unfold ixN
  rw [if_pos (by (first | lia | omega)), if_pos (by (first | lia | omega))]; simp
/-! ### sizes by bottoms -/
theorem okM_set {k : Int} {n : Nat} {M : List (List Nb)} {i : Nat} {xs : List Nb} (h : La.OkM k n M) (hx : xs.length = n ∧ La.OkR k xs) : La.OkM k n (M.set i xs) := fun r hr => by
  rcases La.mem_set_or hr with e | e
  · rw [e]; exact hx
  · exact h r e
end L2

namespace L2
open PySem PySem.Spec PyProof.Rows Nm
/-- [(1, 1), 1][int(kind > 0)] -/
theorem pick_one {k : Int} (hk : KindOk k) {H : Hp} {pq : Addr} (hq : H pq = some (.tup [.int 1, .int 1])) : ∃ v, atI [V.ref pq, V.int 1] (if decide (0 < k) = true then 1 else 0) = some v ∧ RN H (nnum k 1) v := by
  have kl := hk.lt
  by_cases k0 : 0 < k
  · refine ⟨.int 1, by rw [decide_eq_true k0]; rfl, ?_⟩
    have e : nnum k 1 = .z 1 := by
      unfold nnum
      rw [if_neg (by (first | lia | omega))]
      rcases hk with h | h
      · (first | lia | omega)
      · have := h.lo
        rw [Int.fmod_eq_emod_of_nonneg 1 (by (first | lia | omega)), Int.emod_eq_of_lt (by (first | lia | omega)) (by (first | lia | omega))]
    rw [e]; exact RN.of_z
  · refine ⟨.ref pq, by rw [decide_eq_false k0]; rfl, ?_⟩
    have e : nnum k 1 = .q 1 := by unfold nnum; rw [if_pos (by (first | lia | omega))]; rfl
    rw [e]
    exact RN.of_q hq
end L2

namespace L2
open PySem PySem.Spec PyProof.Rows Nm
/-! ### sizes of sums of products, the two sides apart -/
/-! ### rows and machines -/
structure ROk (k : Int) (n m : Nat) (xs : List Nb) : Prop where
  len : xs.length = n
  ok : La.OkR k xs
  sz : ∀ x ∈ xs, nsm m x
structure TOk (k : Int) (r c m : Nat) (M : List (List Nb)) : Prop where
  len : M.length = r
  ok : La.OkM k c M
  sz : ∀ r ∈ M, ∀ x ∈ r, nsm m x
theorem TOk.up {k : Int} {r c m m' : Nat} {M : List (List Nb)} (h : TOk k r c m M) (hm : m ≤ m') : TOk k r c m' M := ⟨h.len, h.ok, fun r hr x hx => (h.sz r hr x hx).mono hm⟩
theorem TOk.row {k : Int} {r c m : Nat} {M : List (List Nb)} (h : TOk k r c m M) {x : List Nb} (hx : x ∈ M) : ROk k c m x := ⟨(h.ok x hx).1, (h.ok x hx).2, h.sz x hx⟩
theorem ROk.app {k : Int} {n n' m : Nat} {xs ys : List Nb} (h : ROk k n m xs) (h' : ROk k n' m ys) : ROk k (n + n') m (xs ++ ys) :=
  ⟨by rw [List.length_append, h.len, h'.len], fun x hx => (List.mem_append.mp hx).elim (h.ok x) (h'.ok x), fun x hx => (List.mem_append.mp hx).elim (h.sz x) (h'.sz x)⟩
theorem tr_tok {k : Int} {r c m : Nat} {M : List (List Nb)} (hM : TOk k r c m M) : TOk k c r m (transp c M) := by
  refine ⟨transp_len _ _, by have := transp_ok hM.ok; rw [hM.len] at this; exact this, fun q hq x hx => ?_⟩
  unfold transp at hq
  obtain ⟨j, hj, rfl⟩ := List.mem_map.mp hq
  rw [List.mem_range] at hj
  obtain ⟨row, hrow, rfl⟩ := List.mem_map.mp hx
  have hj' : j < row.length := by have := (hM.ok row hrow).1; (first | lia | omega)
  rw [List.getD_eq_getElem?_getD, List.getElem?_eq_getElem hj']
  exact hM.sz row hrow _ (List.getElem_mem hj')
/-! ### runs -/
noncomputable def augM (A B : List (List Nb)) : List (List Nb) := List.zipWith (· ++ ·) A B
theorem augM_get {A B : List (List Nb)} {i : Nat} {a b : List Nb} (hA : A[i]? = some a) (hB : B[i]? = some b) : (augM A B)[i]? = some (a ++ b) := by unfold augM; rw [List.getElem?_zipWith, hA, hB]
theorem augM_tok {k : Int} {r c c' m : Nat} {A B : List (List Nb)} (hA : TOk k r c m A) (hB : TOk k r c' m B) : TOk k r (c + c') m (augM A B) := by
  have row : ∀ q ∈ augM A B, ROk k (c + c') m q := fun q hq => by
    obtain ⟨i, hi⟩ := List.mem_iff_getElem?.mp hq
    have hl : i < (augM A B).length := (List.getElem?_eq_some_iff.mp hi).1
    unfold augM at hl
    rw [List.length_zipWith, hA.len, hB.len] at hl
    have i1 : i < A.length := by rw [hA.len]; (first | lia | omega)
    have i2 : i < B.length := by rw [hB.len]; (first | lia | omega)
    rw [augM_get (List.getElem?_eq_getElem i1) (List.getElem?_eq_getElem i2)] at hi
    cases hi
    exact (hA.row (List.getElem_mem i1)).app (hB.row (List.getElem_mem i2))
  exact ⟨by unfold augM; rw [List.length_zipWith, hA.len, hB.len]; (first | lia | omega), fun q hq => ⟨(row q hq).len, (row q hq).ok⟩, fun q hq => (row q hq).sz⟩
/-! ### a row that a call made is appended -/
end L2

namespace L2
open PySem PySem.Spec PyProof.Rows Nm
/-! ### lists of tables -/
section
variable {H H' H2 : Hp} {Ms : List (List (List Nb))} {ts : List Addr} {rs : List (List Addr)}
end
/-! ### tables whose rows are appended to -/
/-! ### marks -/
end L2
namespace L2
open PySem PySem.Spec PyProof.Rows Nm
/-! ### tables told, changed one after the other -/
end L2

namespace L2
open PySem PySem.Spec PyProof.Rows Nm
/-! ### sizes, the two sides apart; by rests there is nothing to say -/
/-! ### tables told anew that are changed -/
section
variable {H H' : Hp} {Ms : List (List (List Nb))} {ts : List Addr} {rs : List (List Addr)}
end
end L2

namespace L2
open PySem PySem.Spec PyProof.Rows Nm
section
variable {X : Cx} {K : PySem.W.Frag}
end
end L2

/-! Rules whose readings do not name the fragment: closed readings are written once, however deep they stand. -/
namespace L2
open PySem PySem.Spec PyProof.Rows
noncomputable def K0 : PySem.W.Frag := []
section
variable {X : Cx} {K : PySem.W.Frag}
theorem SqL.up {H : Hp} {a : Addr} {xs : List V} (h : SqL K0 H a xs) : SqL K H a xs := by
  rcases h with h | ⟨o, its, n, hl, _⟩
  · exact .inl h
  · cases hl
theorem SqT.up {H : Hp} {a : Addr} {xs : List V} (h : SqT K0 H a xs) : SqT K H a xs := by
  rcases h with h | ⟨o, its, n, hl, _⟩
  · exact .inl h
  · cases hl
theorem tyV_up {T : String} {x : V} {H : Hp} (h : tyV K0 T x H) : tyV K T x H := by
  cases x with
  | ref p =>
    rcases h with ⟨e, xs, hx⟩ | ⟨e, o, ho, _⟩ | h | h
    · exact .inl ⟨e, xs, hx.up⟩
    · cases ho
    · exact .inr (.inr (.inl h))
    · exact .inr (.inr (.inr h))
  | _ => exact h
/-- a reading made monotone -/
noncomputable def mo (t : TE) : TE := fun σ H Q => ∃ Q0 : VK, t σ H Q0 ∧ ∀ x H', Q0 x H' → Q x H'
noncomputable def moA (t : TA) : TA := fun σ H Q => ∃ Q0 : List V → Hp → Prop, t σ H Q0 ∧ ∀ x H', Q0 x H' → Q x H'
theorem PE.mo {e : Expr} {t : TE} (h : PE X e t) : PE X e (mo t) := fun pins s σ H Q I ⟨Q0, h0, hq⟩ =>
  thn (h pins s σ H Q0 I h0) fun v s1 ⟨x, H1, I1, r, q⟩ => ⟨x, H1, I1, r, hq x H1 q⟩
theorem PA.mo {es : List Expr} {t : TA} (h : PA X es t) : PA X es (moA t) := fun pos pins s σ H Q I ⟨Q0, h0, hq⟩ =>
  thn (h pos pins s σ H Q0 I h0) fun v s1 ⟨x, H1, I1, r, q⟩ => ⟨x, H1, I1, r, hq x H1 q⟩
theorem ix_list0 : IxR X (rIxL K0) := fun value slice pins s σ H x y v u Q I rx ry ⟨p, xs, i, w, e1, e2, h, e3, q⟩ hs =>
  ix_list value slice pins s σ H x y v u Q I rx ry ⟨p, xs, i, w, e1, e2, h.up, e3, q⟩ hs
theorem ix_tup0 : IxR X (rIxT K0) := fun value slice pins s σ H x y v u Q I rx ry ⟨p, xs, i, w, e1, e2, h, e3, q⟩ hs =>
  ix_tup value slice pins s σ H x y v u Q I rx ry ⟨p, xs, i, w, e1, e2, h.up, e3, q⟩ hs
theorem sl_list0 : SlR X (rSlL K0) := fun pins s σ H x v vl vu lo hi sl Q I rx hs p1 p2 ⟨a, xs, e, h, q⟩ =>
  sl_list pins s σ H x v vl vu lo hi sl Q I rx hs p1 p2 ⟨a, xs, e, h.up, q⟩
inductive ILen (xs : List V) (H : Hp) (Q : VK) : Prop where
  | mk (p : Addr) (ys : List V) (e : xs = [.ref p]) (h : SqL K0 H p ys ∨ SqT K0 H p ys) (q : Q (.int (ys.length : Int)) H) : ILen xs H Q
theorem call_len0 : CallR X (.builtin "len") ILen :=
  fun pins s σ H xs us Q I vs ⟨p, ys, e, h, q⟩ => call_lenK (K := X.K) rfl pins s σ H xs us Q I vs ⟨p, ys, e, h.imp SqL.up SqT.up, q⟩
theorem call_list0 : CallR X (.type "list") (fun xs H Q => ∃ p ys, xs = [.ref p] ∧ (SqL K0 H p ys ∨ SqT K0 H p ys) ∧ ∀ l, H l = none → Q (.ref l) (upd H l (.lst ys))) :=
  fun pins s σ H xs us Q I vs ⟨p, ys, e, h, q⟩ => call_listK (K := X.K) rfl pins s σ H xs us Q I vs ⟨p, ys, e, h.imp SqL.up SqT.up, q⟩
theorem call_sum0 (hc : X.calm = true) : CallR X (.builtin "sum") (fun xs H Q => ∃ p ns, xs = [.ref p] ∧ SqL K0 H p (List.map V.int ns) ∧ Q (.int ns.sum) H) :=
  fun pins s σ H xs us Q I vs ⟨p, ys, e, h, q⟩ => call_sumK (K := X.K) hc rfl pins s σ H xs us Q I vs ⟨p, ys, e, h.up, q⟩
theorem pg_tup0 {pos : Pos} {es : List Expr} {k : Nat} {t : TGs} (n : Nat) (hc : X.calm = true) (hg : PGs X es t) (hn : (assignEach es X.env).length = n := by rfl) (hs : (assignEach es X.env).findIdx? (fun x => x.fst) = none := by rfl) : PG X (.Tuple es k pos) (gTup K0 n t) :=
  fun pins s σ H v u Q I r ⟨a, xs, e, h, l, q⟩ => pg_tupK (K := X.K) n rfl hc hg hn hs pins s σ H v u Q I r ⟨a, xs, e, h.up, l, q⟩
/-! iterators -/
structure It.le (J0 J : It) : Prop where
  go : ∀ i H, J0.go i H → J.go i H
  stop : ∀ i H, J0.stop i H → J.stop i H
  yld : ∀ i H x H', J.yld i H x H' → J0.yld i H x H'
theorem Turn.weaken {P : Program} {w : World} {tg : Expr} {J J0 : It} {fp : List Addr} {it : Addr} {tn : Nat → Heap → Prop} (T : Turn P w K tg J fp it tn) (l : It.le J0 J) : Turn P w K tg J0 fp it tn where
  mem := T.mem
  obj := T.obj
  keep := T.keep
  self := T.self
  item := fun X p1 p2 p3 p4 i pins s σ H E I f t g => thn (T.item X p1 p2 p3 p4 i pins s σ H E I f t (l.go i H g)) fun r s1 ⟨u, e, hw⟩ => ⟨u, e, thn hw fun _ s2 ⟨x, H', a, b, y, c⟩ => ⟨x, H', a, b, l.yld _ _ _ _ y, c⟩⟩
  done := fun X p1 p2 p3 p4 i pins s σ H E I f t g => T.done X p1 p2 p3 p4 i pins s σ H E I f t (l.stop i H g)
theorem itl_le (a : Addr) : It.le (Itl K0 a) (Itl K a) := ⟨fun i H ⟨xs, x, h, e⟩ => ⟨xs, x, h.up, e⟩, fun i H ⟨xs, h, e⟩ => ⟨xs, h.up, e⟩, fun i H x H' ⟨e, h⟩ => ⟨e, fun xs hx => h xs hx.up⟩⟩
theorem itz_le (a b : Addr) : It.le (Itz K0 a b) (Itz K a b) := ⟨fun i H ⟨xs, ys, x, y, h, h2, e⟩ => ⟨xs, ys, x, y, h.up, h2.up, e⟩, fun i H ⟨xs, ys, h, h2, e⟩ => ⟨xs, ys, h.up, h2.up, e⟩,
  fun i H v H' ⟨T, x, y, e1, e2, e3, h1, h2⟩ => ⟨T, x, y, e1, e2, e3, fun xs hx => h1 xs hx.up, fun ys hy => h2 ys hy.up⟩⟩
theorem pie_up {pins : List (Addr × Obj)} {σ : St} {tg : Expr} {R : It → Hp → Prop} {itv : Value} {s : Shared} (h : PIE X pins σ tg (fun J H => ∃ J0, It.le J0 J ∧ R J0 H) itv s) : PIE X pins σ tg R itv s := by
  obtain ⟨it, fp, tn, J, H', e, I2, T, t0, fo, J0, l, q⟩ := h
  exact ⟨it, fp, tn, J0, H', e, I2, T.weaken l, t0, fo, q⟩
theorem pi_list0 {tg l : Expr} {tl : TE} (hl : PE X l tl) : PI X tg l (iList K0 tl) := fun pins s σ H R I h =>
  thn (pi_list hl.mo pins s σ H (fun J H => ∃ J0, It.le J0 J ∧ R J0 H) I ⟨_, h, fun x H1 ⟨a, e, ⟨xs, hx⟩, q⟩ => ⟨a, e, ⟨xs, hx.up⟩, _, itl_le a, q⟩⟩) fun _ _ hw => thn hw fun _ _ hp => pie_up hp
theorem pi_zip0 {a b : Expr} {ta : TA} {p pos : Pos} {elts : List Expr} {k1 : Nat} {tpos : Pos} (hg : Gl X "zip") (hm : X.mg "zip" = none) (ha : PA X [a, b] ta) (hs : starEach [a, b] X.env = [(false, eval a X.env), (false, eval b X.env)] := by rfl) (hs2 : starEach [b] X.env = [(false, eval b X.env)] := by rfl) :
    PI X (.Tuple elts k1 tpos) (.Call (.Name "zip" p) [a, b] [] pos) (iZip K0 ta) := fun pins s σ H R I h =>
  thn (pi_zip hg hm ha.mo hs hs2 pins s σ H (fun J H => ∃ J0, It.le J0 J ∧ R J0 H) I ⟨_, h, fun x H1 ⟨a, b, xs, ys, e, hx, hy, q⟩ => ⟨a, b, xs, ys, e, hx.up, hy.up, _, itz_le a b, q⟩⟩) fun _ _ hw => thn hw fun _ _ hp => pie_up hp
theorem bm0 {o e' : Expr} {T : String} {r : V → List V → Hp → VK → Prop} {to : TE} {t : TA} (h : ∀ to', PE X o to' → PE X e' (tBM X.K T r to' t)) (ho : PE X o to) : PE X e' (tBM K0 T r to t) := fun pins s σ H Q I hh =>
  h (mo to) ho.mo pins s σ H Q I ⟨_, hh, fun x H1 ⟨a, b⟩ => ⟨tyV_up a, b⟩⟩
end
end L2

namespace L2
open PySem PySem.Spec PyProof.Rows Nm
/-! ### joined machines -/
theorem unit_tok {k : Int} (hk : KindOk k) (n : Nat) : TOk k n n 7 (La.unitM k n) := by
  refine ⟨(La.unitM_ok hk n).2, (La.unitM_ok hk n).1, fun q hq x hx => ?_⟩
  unfold La.unitM at hq
  obtain ⟨i, _, rfl⟩ := List.mem_map.mp hq
  unfold La.unitRow at hx
  obtain ⟨j, _, rfl⟩ := List.mem_map.mp hx
  split
  · exact nsm_num hk (sm_one.mono (by decide)) (by decide)
  · exact nsm_num hk (sm_zero 7) (by decide)
section
variable {k : Int} (hk : KindOk k)
end
end L2

namespace L2
open PySem PySem.Spec PyProof.Rows Nm La Lean.Grind
section
variable {k : Int} {F : Type} [Field F] {φ : Kf k F}
/-! ### tables and the functions that they are -/
end
section
variable {k : Int} (hk : KindOk k)
include hk
/-! ### sizes -/
end
/-! ### lists of marks -/
end L2

namespace L2
open PySem PySem.Spec PyProof.Rows
section
variable {P : Program} {w : World} {K : PySem.W.Frag} {mg : Str → Option Value} {base : Heap}
/-- what the fragment tells of a class of the text's own -/
theorem exc_obj {h : Heap} {C : Addr} {bmB : List Value} {newId : String} (X : K.In h) (q : PySem.W.excIn K C bmB newId = true) :
    ∃ bm N nm q bs hdct sn sub ab col dd k0 k1 k2 k3 k5 mN, h.get? C = some (excClassObj nm q C N bs bm hdct sn sub ab col dd k0 k1 k2 k3 k5 newId) ∧ h.Ns N mN ∧ mN (Str.ofString "__init__") = none ∧ OwnTail h bmB bm := by
  unfold PySem.W.excIn at q
  split at q
  · rename_i dict cd sl hl
    split at q
    · rename_i C' bm a b c d n e hm hs
      simp only [Bool.and_eq_true, beq_iff_eq, Bool.not_eq_true'] at q
      obtain ⟨⟨⟨⟨⟨rfl, rfl⟩, hdel⟩, ht⟩, hok⟩, hni⟩ := q
      obtain ⟨nm, bs, mro, ns, qn, hd, sn, sub, ab, col, del⟩ := cd
      obtain ⟨sl⟩ := sl
      simp only at hm hs hdel hok hni
      subst hm hs hdel
      exact ⟨bm, ns, nm, qn, bs, hd, sn, sub, ab, col, dict, a, b, c, d, e, h.nsMap ns, X _ _ hl, Heap.Ns.of_isNs (PySem.W.isNs_of_in X hok), PySem.W.nsMap_none_of_in X hok hni, PySem.W.tail_of_in X ht⟩
    · cases q
  · cases q
noncomputable abbrev bmVE : List Value := [Value.type "ValueError", Value.type "Exception", Value.type "BaseException", Value.type "object"]
/-- a class of the text's own, below ValueError -/
structure Ec (K : PySem.W.Frag) (mg : Str → Option Value) (x : Str) (C : Addr) : Prop where
  bound : mg x = some (.ref C)
  own : PySem.W.excIn K C bmVE "ValueError.__new__" = true
/-! ### frames -/
theorem frames_mem {h b1 : Heap} : ∀ {l : List Env} {b : Addr}, h.FunFrames b1 l → b ∈ frs l → ∃ o, h.get? b = some o ∧ b1.get? b = none ∧ ∀ vs, o.data ≠ Data.fields vs
  | [], b, _, hb => by simp [frs] at hb
  | env :: l, b, F, hb => by
    obtain ⟨_, ⟨L, o, e1, e2, e3, e4⟩, F'⟩ := F
    have hb' : b = L ∨ b ∈ frs l := by
      unfold frs at hb ⊢
      rw [List.filterMap_cons_some e1] at hb
      exact List.mem_cons.mp hb
    rcases hb' with rfl | hb'
    · exact ⟨o, e3, e2, e4⟩
    · exact frames_mem F' hb'
theorem frames_hid {h b1 : Heap} {as : List Addr} : ∀ {l : List Env}, h.FunFrames b1 l → (∀ b ∈ frs l, b ∈ as) → h.FunFrames (PySem.W.hideAll h as) l
  | [], _, _ => trivial
  | env :: l, F, hs => by
    obtain ⟨k, ⟨L, o, e1, e2, e3, e4⟩, F'⟩ := F
    have em : frs (env :: l) = L :: frs l := by unfold frs; rw [List.filterMap_cons_some e1]
    rw [em] at hs
    exact ⟨k, ⟨L, o, e1, PySem.W.hideAll_none as (hs L List.mem_cons_self), e3, e4⟩, frames_hid F' fun b hb => hs b (List.mem_cons_of_mem _ hb)⟩
theorem ObjOk.there {H : Hp} {h : Heap} {a : Addr} {o : HO} (x : ObjOk P w H h a o) : ∃ ob, h.get? a = some ob := by
  cases o with
  | lst xs => obtain ⟨_, _, _, _, e⟩ := x; exact ⟨_, e⟩
  | tup xs => obtain ⟨_, _, _, _, e, _⟩ := x; exact ⟨_, e⟩
  | dK kvs => obtain ⟨_, _, _, _, o, _, _, e, _⟩ := x; exact ⟨_, e⟩
  | dT kvs => obtain ⟨_, _, _, _, o, _, _, e, _⟩ := x; exact ⟨_, e⟩
  | set S n => obtain ⟨o, _, _, _, e, _⟩ := x; exact ⟨_, e⟩
  | ins C dx fs => obtain ⟨_, _, _, e, _⟩ := x; exact ⟨_, e⟩
  | own y => obtain ⟨_, e⟩ := x; exact ⟨_, e⟩
  | xd fs => obtain ⟨_, ⟨_, _, _, e, _⟩, _⟩ := x; exact ⟨_, e⟩
  | rng lo hi => obtain ⟨_, _, _, e⟩ := x; exact ⟨_, e⟩
  | frz ob u => obtain ⟨e, _⟩ := x; exact ⟨_, e⟩
  | tbl ps => exact ⟨_, (show h.get? a = some _ from x)⟩
  | met f y => exact ⟨_, (show h.get? a = some _ from x)⟩
  | ext φ => obtain ⟨_, ⟨_, e⟩, _⟩ := x; exact ⟨_, e⟩

/-- an exception of the class at C, at e, flies: b1 the heap that stands still while it does -/
structure Fly (P : Program) (w : World) (outer : List Env) (H : Hp) (s : Shared) (H' : Hp) (b1 : Heap) (e C : Addr) (h : Heap) : Prop where
  fl : ∃ t, b1.FlyingW outer e (.ref C) t h
  un : Un (frs outer) [] H H' s.heap h
  hok : HOk P w H' h
  kb : ∀ b o, h.get? b = some o → (s.heap.get? b ≠ none ∨ H' b ≠ none) → b ∉ frs outer → b1.get? b = some o
  fr : ∀ b ∈ frs outer, H' b = none
  new : s.heap.get? e = none ∧ H' e = none
theorem Fly.step {outer : List Env} {H H' : Hp} {s : Shared} {b1 h h' : Heap} {e C : Addr} (F : Fly P w outer H s H' b1 e C h) (st : b1.StaysIn h') (fl : ∃ t, b1.FlyingW outer e (.ref C) t h') (u : h.UpToSlots h') : Fly P w outer H s H' b1 e C h' := by
  obtain ⟨t, _, _, ff, _⟩ := F.fl
  have thr : ∀ b, s.heap.get? b ≠ none → ∃ o, h.get? b = some o := fun b hb => by
    cases q : s.heap.get? b with
    | none => exact absurd q hb
    | some o => exact F.un.there b o q (by simp)
  have thr2 : ∀ b, H' b ≠ none → ∃ o, h.get? b = some o := fun b hb => by
    cases q : H' b with
    | none => exact absurd q hb
    | some o => exact (F.hok b o q).there
  have kp : ∀ b o, h.get? b = some o → (s.heap.get? b ≠ none ∨ H' b ≠ none) → b ∉ frs outer → h'.get? b = some o := fun b o q c n => st b o (F.kb b o q c n)
  refine ⟨fl, ⟨fun b o q n hb _ => ?_, fun b o q n hb _ => ?_, F.un.free, fun b o q _ => ?_, F.un.tups, F.un.frzs, F.un.tbls⟩, fun a o q => ?_, fun b o q c n => ?_, F.fr, F.new⟩
  · exact kp b o (F.un.keep b o q n hb (by simp)) (.inl (by rw [q]; simp)) hb
  · obtain ⟨sl, q1⟩ := F.un.slot b o q n hb (by simp)
    obtain ⟨o', e1, _, e3⟩ := frames_mem ff hb
    rw [q1] at e1; cases e1
    obtain ⟨sl', q2⟩ := u b _ q1 e3
    exact ⟨sl', q2⟩
  · obtain ⟨o', q1⟩ := F.un.there b o q (by simp)
    by_cases hb : b ∈ frs outer
    · obtain ⟨o2, e1, _, e3⟩ := frames_mem ff hb
      obtain ⟨sl', q2⟩ := u b _ e1 e3
      exact ⟨_, q2⟩
    · exact ⟨o', kp b o' q1 (.inl (by rw [q]; simp)) hb⟩
  · refine (F.hok a o q).stay (fun b u' hb q1 => ?_) (fun _ z => z) fun _ _ z => z
    have nn : H' b ≠ none := by
      rcases hb with rfl | hb
      · rw [q]; simp
      · rw [hb]; simp
    exact kp b u' q1 (.inr nn) fun z => nn (F.fr b z)
  · obtain ⟨o1, q1⟩ : ∃ o1, h.get? b = some o1 := by
      rcases c with c | c
      · exact thr b c
      · exact thr2 b c
    have q2 := kp b o1 q1 c n
    have e12 : o1 = o := Option.some.inj (q2.symm.trans q)
    rw [← e12]
    exact F.kb b o1 q1 c n
/-- how an exception of the text's own lies behind a call -/
noncomputable def CX1 (P : Program) (w : World) : CXT := fun outer H s E e s' => ∃ (a C : Addr) (H' : Hp) (b1 : Heap), e = .ref a ∧ s'.os = s.os ∧ AllBare s'.gens ∧ Fly P w outer H s H' b1 a C s'.heap ∧ E (.ref C) none H'
theorem pass1 {X : Cx} : Passes (CX1 X.prog X.w) X E0 := fun _ _ _ _ _ _ _ h => by
  obtain ⟨_, _, _, _, _, _, _, _, z⟩ := h
  exact z.elim
end

/-! ### raise C(..) -/
section
variable {X : Cx} {x : Str} {C : Addr} {np cpos pos : Pos} {e : Expr} {es : List Expr} {ta : TA}
theorem PS.nox {st : Stmt} {t : TS} (h : PS X.nox st t) : PS X st t := fun pins s σ H D I hw =>
  wpAny_mono (h pins s σ H D (I.wish _) hw) (fun _ _ q => q.unwish) fun _ _ z => z.elim
/-- what an exception that is made here must meet -/
noncomputable def Raises (X : Cx) (C : Addr) (R : Hp → Prop) : Prop := ∀ (pins : List (Addr × Obj)) (σ : St) (H : Hp) (s : Shared) (h' : Heap) (a : Addr) (vs : List Value), Inv X pins σ H s → s.heap.MadeExcOf h' a (.ref C) vs → R H → X.xe (.ref a) { s with heap := h' }
noncomputable def tRaise (ta : TA) (R : Hp → Prop) : TS := fun _ σ H => ta σ H fun vs H1 => vs.length ≤ sizeLine ∧ R H1
theorem ps_raise {R : Hp → Prop} (c : Ec X.K X.mg x C) (hg : Gl X x) (hc : X.calm = true) (hx : Raises X C R) (ha : PA X (e :: es) ta) (hdb : (x == ("__debug__" : Str)) = false := by decide)
    (he : starEach (e :: es) X.env = (false, eval e X.env) :: starEach es X.env := by rfl) (hpl : (backTo cpos (starEach (e :: es) X.env)).any (·.1) = false := by rfl)
    (hb : backTo cpos ((false, eval e X.env) :: starEach es X.env) = (false, eval e X.env) :: backTo cpos (starEach es X.env) := by rfl) :
    PS X (.Raise (some (.Call (.Name x np) (e :: es) [] cpos)) none pos) (tRaise ta R) := by
  intro pins s σ H D I h
  obtain ⟨bm, N, nm, q, bs, hdct, sn, sub, ab, col, dd, k0, k1, k2, k3, k5, mN, hC, hN, hi, hT⟩ := exc_obj I.ok.mod.kin c.own
  refine wpAny_Raise_call_subT (nm := nm) (q := q) (C := C) (N := N) (bs := bs) (bm := bm) (hdct := hdct) (sn := sn) (sub := sub) (ab := ab) (col := col) (dd := dd) (k0 := k0) (k1 := k1) (k2 := k2) (k3 := k3) (k5 := k5) (mN := mN)
    PySem.F.excBase_ValueError (hT.hasType rfl) (I.ok.hd hc) hpl hi ?_
  refine ld_glob I hg c.bound ⟨rfl, ?_⟩ hdb
  have hA := ha cpos pins s σ H _ I h
  rw [he] at hA ⊢
  refine Calls.evalArgs_plain (thn hA fun us s1 ⟨vs, H1, I1, r, hl, hR⟩ => ?_)
  exact ⟨rfl, by rw [← r.length]; exact hl, I1.bk _ _ hC, hN.keeps I1.bk, hT.keeps I1.bk, fun h' a m => hx pins σ H1 s1 h' a us I1 m hR⟩
end
section
variable {P : Program} {w : World} {K : PySem.W.Frag} {mg : Str → Option Value} {base : Heap}
/-- an exception that a def's body makes leaves it -/
theorem raises_of {N : List Str} {qual : Str} {scope : Scope} {f : Addr} {cd : Value} {A : Around} {outer : List Env} {s : Shared} {H : Hp} {E : XK} {C : Addr} :
    Raises (cxOf (CX1 P w) P w K mg base N qual scope f cd A outer s H E) C fun H' => E (.ref C) none H' := by
  intro pins σ H' s1 h1 a vs I m hE
  have ff := I.stack
  have hst : frs (envOfC qual scope s.heap.objs.size f cd :: outer) = s.heap.objs.size :: frs outer := rfl
  have nL : ∀ b o, s.heap.get? b = some o → b ≠ s.heap.objs.size := fun b o q z => Nat.lt_irrefl _ (z ▸ Heap.lt_size q)
  refine wpAny_leaves_madeW (outer := outer) (L := s.heap.objs.size) (base := PySem.W.hideAll s1.heap (s.heap.objs.size :: frs outer)) (h := s1.heap) I.ok.frames rfl (fun b o q => PySem.W.of_hideAll _ q)
    (frames_hid ff fun b hb => by rw [← hst]; exact hb) m fun h' t fl ht _ up => ?_
  have st := fl.1
  have kp : ∀ b o, s1.heap.get? b = some o → b ∉ s.heap.objs.size :: frs outer → h'.get? b = some o := fun b o q n => st b o (PySem.W.hideAll_get _ q n)
  have nf : ∀ b, H' b ≠ none → b ∉ s.heap.objs.size :: frs outer := fun b hb z => hb (I.stkFree b (by rw [← hst] at z; exact z))
  have u : Un (frs outer) [] H H' s.heap s1.heap := I.base
  refine ⟨a, C, H', _, rfl, I.os, I.bare, ⟨⟨_, fl⟩, ⟨fun b o q n hb _ => ?_, fun b o q n hb _ => ?_, u.free, fun b o q _ => ?_, u.tups, u.frzs, u.tbls⟩, fun b o q => ?_, fun b o q c n => ?_, fun b hb => I.stkFree b (List.mem_cons_of_mem _ hb), ?_, ?_⟩, hE⟩
  · exact kp b o (u.keep b o q n hb (by simp)) fun z => (List.mem_cons.mp z).elim (nL b o q) hb
  · obtain ⟨sl, q1⟩ := u.slot b o q n hb (by simp)
    obtain ⟨o', e1, _, e3⟩ := frames_mem ff (List.mem_cons_of_mem _ hb)
    rw [q1] at e1; cases e1
    obtain ⟨sl', q2⟩ := up b _ (m.keeps _ _ q1) e3
    exact ⟨sl', q2⟩
  · obtain ⟨o', q1⟩ := u.there b o q (by simp)
    by_cases hb : b ∈ frs outer
    · obtain ⟨o2, e1, _, e3⟩ := frames_mem ff (List.mem_cons_of_mem _ hb)
      obtain ⟨sl', q2⟩ := up b _ (m.keeps _ _ e1) e3
      exact ⟨_, q2⟩
    · exact ⟨o', kp b o' q1 fun z => (List.mem_cons.mp z).elim (nL b o q) hb⟩
  · refine (I.hok b o q).stay (fun c u' hc q1 => ?_) (fun _ z => z) fun _ _ z => z
    refine kp c u' q1 (nf c ?_)
    rcases hc with rfl | hc
    · rw [q]; simp
    · rw [hc]; simp
  · obtain ⟨o1, q1⟩ : ∃ o1, s1.heap.get? b = some o1 := by
      rcases c with c | c
      · cases q' : s.heap.get? b with
        | none => exact absurd q' c
        | some o => exact u.there b o q' (by simp)
      · cases q' : H' b with
        | none => exact absurd q' c
        | some o => exact (I.hok b o q').there
    have n' : b ∉ s.heap.objs.size :: frs outer := by
      rcases c with c | c
      · cases q' : s.heap.get? b with
        | none => exact absurd q' c
        | some o => exact fun z => (List.mem_cons.mp z).elim (nL b o q') n
      · exact nf b c
    have e12 : o1 = o := Option.some.inj ((kp b o1 q1 n').symm.trans q)
    rw [← e12]
    exact PySem.W.hideAll_get _ q1 n'
  · cases q' : s.heap.get? a with
    | none => rfl
    | some o =>
      obtain ⟨o', q1⟩ := u.there a o q' (by simp)
      rw [m.new] at q1; cases q1
  · cases q' : H' a with
    | none => rfl
    | some o =>
      obtain ⟨o', q1⟩ := (I.hok a o q').there
      rw [m.new] at q1; cases q1
end

/-! ### a def that raises -/
structure Kx (P : Program) (w : World) (K : PySem.W.Frag) (mg : Str → Option Value) (base : Heap) (x : Str) (k : Nat) (ps : List Str) (sp : Sp) : Prop where
  ex : ∃ (f : Addr) (fd : FuncData), FnOk P w K mg base (CX1 P w) k f fd ps sp ∧ mg x = some (.ref f) ∧ PySem.W.keepIn K (.ref f) = true ∧ Binds K fd ps []
section
variable {P : Program} {w : World} {K : PySem.W.Frag} {mg : Str → Option Value} {base : Heap}
theorem Df.kx {x : Str} {st : Stmt} {N ps : List Str} {k : Nat} {sp : Sp} (D : Df K mg x ps st) (S : FnScope N ps (defScope st)) (len : ∀ vs H Q E, sp vs H Q E → vs.length = ps.length)
    (hbody : ∀ (f : Addr) (cdv : Value) (A : Around) (outer : List Env) (s : Shared) (H : Hp) (vs : List V) (Q : VK) (E : XK), Room k (A.deeper (envOfC x (defScope st) s.heap.objs.size f cdv)) → sp vs H Q E →
      ∃ t, PSs (cxOf (CX1 P w) P w K mg base N x (defScope st) f cdv A outer s H E) (defBody st) t ∧ t { nx := fun _ H' => Q .non H', rt := Q } (start N vs) H) : Kx P w K mg base x (k + 1) ps sp := by
  obtain ⟨f, fd, F, hm, hb⟩ := D.ex
  have F' := F
  obtain ⟨oc, od, kV, doc, pm, an, cdv, ct, osl, rfl, lk, hcd⟩ := F.ex
  exact ⟨f, _, fn_of lk hcd S len fun A outer s H vs Q E hr hsp => hbody f cdv A outer s H vs Q E hr hsp, hm, F'.kp, hb⟩
theorem pe_kx {X : Cx} {x : Str} {k : Nat} {ps : List Str} {sp : Sp} {p pos : Pos} {e : Expr} {es : List Expr} {t : TA} (D : Kx X.prog X.w X.K X.mg X.base x k ps sp) (hr : Room k X.A) (hg : Gl X x) (ha : PA X (e :: es) t)
    (hdb : (x == ("__debug__" : Str)) = false := by decide) (he : starEach (e :: es) X.env = (false, eval e X.env) :: starEach es X.env := by rfl) (hpl : (backTo pos (starEach es X.env)).any (·.1) = false := by rfl) :
    PE X (.Call (.Name x p) (e :: es) [] pos) (tCall sp [] E0 t) := by
  obtain ⟨f, fd, F, hm, hk, hb⟩ := D.ex
  exact pe_call F hr hg hm hk hb .nil pass1 ha hdb he hpl
end

/-! ### try: x = f(..) except C: suite -/
noncomputable abbrev Cx.marked (X : Cx) (v : Option Value) : Cx := { X with A := X.A.mark v, calm := false, xe := fun _ _ => False }
section
variable {X : Cx} {pins : List (Addr × Obj)} {σ : St} {H H' : Hp} {s s' : Shared} {b1 : Heap} {a C : Addr} {v : Option Value}
theorem Inv.mark (I : Inv X pins σ H s) : Inv (X.marked v) pins σ H s :=
  ⟨⟨I.ok.mod, I.ok.kind, I.ok.glob, I.ok.blt, I.ok.above, I.ok.inj, I.ok.has, I.ok.cab, (fun z => nomatch z), I.ok.frames, I.ok.stk, I.ok.exf, I.ok.bs, I.ok.bsz, I.ok.noex, I.ok.exfs, I.ok.funs, I.ok.frf⟩,
    I.os, I.bare, I.base, I.loc, I.cell, I.free, I.freeC, I.pin, I.hok, I.len⟩
theorem Inv.unmark (ok : X.Ok) (I : Inv (X.marked v) pins σ H s) : Inv X pins σ H s := ⟨ok, I.os, I.bare, I.base, I.loc, I.cell, I.free, I.freeC, I.pin, I.hok, I.len⟩
theorem Fly.inv (F : Fly X.prog X.w X.stack H s H' b1 a C s'.heap) (I : Inv X pins σ H s) (ho : s'.os = s.os) (hg : AllBare s'.gens) : Inv X pins σ H' s' :=
  I.call' (ch := []) ho F.un F.hok hg fun b z => absurd z (by simp)
end
section
variable {X : Cx} {x f : Str} {C : Addr} {np p2 cpos pos apos hp npos : Pos} {e : Expr} {es : List Expr} {ta : TA} {i k : Nat} {y : Str} {ps : List Str} {sp : Sp} {b₀ : Stmt} {suite : List Stmt} {ts : TS}
end
end L2

namespace L2
open PySem PySem.Spec PyProof.Rows Nm La Lean.Grind
/-! ### data told apart -/
theorem eqvAll_eq {α : Type} [DecidableEq α] (f : α → PyData) (h : ∀ x y, PyData.eqv (f x) (f y) = decide (x = y)) : ∀ l l' : List α, PyData.eqvAll (l.map f) (l'.map f) = decide (l = l')
  | [], [] => rfl
  | [], _ :: _ => rfl
  | _ :: _, [] => rfl
  | x :: l, y :: l' => by
    show (PyData.eqv (f x) (f y) && PyData.eqvAll (l.map f) (l'.map f)) = _
    rw [h, eqvAll_eq f h l l', Bool.eq_iff_iff]
    simp
theorem rowD_eqv (xs ys : List Nb) : PyData.eqv (rowD xs) (rowD ys) = decide (xs = ys) := eqvAll_eq toD toD_eqv xs ys
theorem tabD_eqv (M N : List (List Nb)) : PyData.eqv (tabD M) (tabD N) = decide (M = N) := eqvAll_eq rowD rowD_eqv M N
theorem pd_takeN {α β : Type} {R : α → β → Prop} {xs : List α} {ys : List β} (h : Paired R xs ys) (n : Nat) : Paired R (xs.take n) (ys.take n) := by
  have hl := pd_len h
  refine pd_of (by rw [List.length_take, List.length_take, hl]) fun i a b h1 h2 => ?_
  have hi := (List.getElem?_eq_some_iff.mp h1).1
  rw [List.length_take] at hi
  rw [List.getElem?_take_of_lt (by (first | lia | omega))] at h1 h2
  exact pd_get h h1 h2
theorem pd_dropN {α β : Type} {R : α → β → Prop} {xs : List α} {ys : List β} (h : Paired R xs ys) (n : Nat) : Paired R (xs.drop n) (ys.drop n) := by
  have hl := pd_len h
  refine pd_of (by rw [List.length_drop, List.length_drop, hl]) fun i a b h1 h2 => ?_
  rw [List.getElem?_drop] at h1 h2
  exact pd_get h h1 h2
theorem cutTo {xs : List V} (N : Nat) : cutV xs none (some (N : Int)) = xs.take N := by
  unfold cutV
  rw [HT.sIx_none, Nat.sub_zero, List.drop_zero, HT.sIx_nat]
  rcases Nat.lt_or_ge N xs.length with h | h
  · rw [Nat.min_eq_left (by (first | lia | omega))]
  · rw [Nat.min_eq_right (by (first | lia | omega)), List.take_of_length_le (Nat.le_refl _), List.take_of_length_le h]
theorem cutFrom {xs : List V} (N : Nat) : cutV xs (some (N : Int)) none = xs.drop N := by
  unfold cutV
  rw [HT.sIx_none, HT.sIx_nat]
  rcases Nat.lt_or_ge N xs.length with h | h
  · rw [Nat.min_eq_left (by (first | lia | omega)), List.take_of_length_le (by rw [List.length_drop]; exact Nat.le_refl _)]
  · rw [Nat.min_eq_right (by (first | lia | omega)), List.drop_of_length_le (Nat.le_refl _), List.drop_of_length_le h, List.take_nil]
/-! ### runs: sums -/
section
variable {k : Int} (hk : KindOk k)
include hk
/-! ### runs from nought: marks -/
end
section
variable {k : Int} (hk : KindOk k)
include hk
/-! ### a machine turned -/
end
end L2

set_option maxHeartbeats 2000000
namespace L2
open PySem PySem.Spec PyProof.Rows
/-! ### what kind of thing an exception of the text's own is -/
/-- what the fragment tells of a class below BaseException, for `__class__` -/
structure Ek (K : PySem.W.Frag) (C : Addr) : Prop where
  ga : PySem.W.findIn K (.ref C) "__getattribute__" = some (some (.builtin "BaseException.__getattribute__"))
  gh : PySem.W.findIn K (.ref C) "__getattr__" = some none
  cl : PySem.W.findIn K (.ref C) "__class__" = some (some (.builtin "object.__class__"))
  gt : PySem.W.specialIn K (.builtin "object.__class__") "__get__" = some (some (.builtin "getset_descriptor.__get__"))
  tk : PySem.W.takesIn K (.builtin "object.__class__") = some true
  mB : PySem.W.mroIn K C (.type "BaseException") = some true
  mO : PySem.W.mroIn K C (.type "object") = some true
noncomputable def ExAt (a C : Addr) (h : Heap) : Prop := ∃ o, h.get? a = some o ∧ o.cls = .ref C
section
variable {prog : Program} {w : World} {A : Around} {E : Value → Shared → Prop} {s : Shared} {K : PySem.W.Frag} {x C : Addr}
theorem ExAt.type {M : Model} {h : Heap} (I : ExAt x C h) : PySem.W.Looks M h (typeOf (.ref x)) (.ref C) := by
  obtain ⟨o, h1, h2⟩ := I
  exact h2 ▸ (PySem.W.Looks.ld h1).andThen .now
open PySem.W PySem.Builtin.ObjectAttr in
theorem exc_find {M : Model} {h : Heap} (X : K.In h) (k : Ek K C) : Looks M h (find (.ref x) (.ref C) "__class__") (.bind (.builtin "getset_descriptor.__get__") (.builtin "object.__class__")) := by
  have a3 := looks_takesIn (M := M) X k.tk
  unfold find
  refine (looks_findIn X k.cl).andThen ((looks_specialIn X k.gt).andThen ?_)
  refine Looks.andThen (a := some (Value.builtin "getset_descriptor.__get__", Value.builtin "object.__class__")) (a3.andThen .now) ?_
  exact Looks.tag .now
open PySem.W in
theorem exc_get {tp : Value} {R : Result → Shared → Prop} (X : K.In s.heap) (I : ExAt x C s.heap) (k : Ek K C) (h : R (.ok (.ret (.ref C))) s) : codeAny (model prog w) A (.call (.builtin "getset_descriptor.__get__") ⟨[.builtin "object.__class__", .ref x, tp], []⟩) R s := by
  obtain ⟨hh, g, d, t, os⟩ := s
  have a0 := I.type (M := model prog w)
  have a5 := looks_mroIn (M := model prog w) X k.mO
  refine codeAny_call_builtin KF.slot_gs.plain KF.entry_gs (KF.slot_gs.check _ _ _ _ (.builtin "object.__class__") [.ref x, tp] [] _ KF.type_class (KF.args_gs _ _ tp) ?_)
  have d1 := dga_obj (.builtin "object.__class__") tp x
  simp only [Builtin.«getset_descriptor.__get__», PySem.Builtin.Getset_descriptor.descrGet, d1]
  refine wpAny_bind (wpAny_pure ?_)
  simp only [PySem.Builtin.Getset_descriptor.descrGetter, PySem.Builtin.Getset_descriptor.descrCheckInstance, PySem.Builtin.Getset_descriptor.descrNameAndClass, isInstance, KF.owner_class]
  repeat lk
  refine And.intro (Code.quiet_builtin _ (by decide +kernel)) (codeAny_builtin KF.entry_class ?_)
  simp only [Builtin.«object.__class__», shownTypeOf]
  repeat lk
  exact h
open PySem.W PySem.Builtin.ObjectAttr in
theorem exc_cls {Q : Option Value → Shared → Prop} (X : K.In s.heap) (I : ExAt x C s.heap) (k : Ek K C) (h : Q (some (.ref C)) { s with toks := s.toks + 1 }) : wpAny (model prog w) A (getAttr? (.ref x) "__class__") Q E s := by
  obtain ⟨hh, g, d, t, os⟩ := s
  have a0 := I.type (M := model prog w)
  have a1 := looks_findIn (M := model prog w) X k.ga
  have a2 := looks_findIn (M := model prog w) X k.gh
  have a3 := exc_find (M := model prog w) (x := x) X k
  have a4 := looks_mroIn (M := model prog w) X k.mB
  have a5 := looks_mroIn (M := model prog w) X k.mO
  unfold getAttr? getAttrBy? getAttrBy
  refine wpAny_bind (wpAny_mkText (wpAny_bind (wpAny_attempt (wpAny_holding (wpAny_bind (a0.at (wpAny_bind (a1.at ?_))))))))
  have e1 : (onTheHeap (Value.ref C) && Value.builtin "BaseException.__getattribute__" == Value.builtin "object.__getattribute__") = false := by
    rw [show (Value.builtin "BaseException.__getattribute__" == Value.builtin "object.__getattribute__") = false from by decide +kernel]; rfl
  dsimp only
  rw [if_neg (by rw [e1]; decide)]
  unfold getAttrByItsOwn hookBefore
  refine wpAny_bind ?_
  rw [if_pos (show onTheHeap (Value.ref C) = true from rfl)]
  refine a2.at (wpAny_bind (wpAny_attempt (wpAny_holding ?_)))
  unfold callGetattribute boundAndCalled
  rw [if_neg (by decide), PySem.F.attr_ValueError.ga.bind]
  refine wpAny_bind (wpAny_pure ?_)
  dsimp only [List.cons_append, List.nil_append]
  refine wpAny_call (codeAny_call_builtin PySem.F.attr_ValueError.ga.plain PySem.F.entry_bexc_ga ?_)
  have a6 : Looks (model prog w) hh (isInstance (.ref x) (.type "BaseException")) true := a0.andThen a4
  simp only [checkBuiltinCall, show builtinKind "BaseException.__getattribute__" = some .slot by decide +kernel, show splitId "BaseException.__getattribute__" = some ("BaseException", "__getattribute__") by decide +kernel]
  refine wpAny_bind (a6.at ?_)
  simp only [Bool.not_true, Bool.false_eq_true, if_false]
  have a7 := PySem.F.args_bexc_ga (.ref x) (.str "__class__" t)
  unfold argsOk at a7
  have a8 : ∀ m : Sem Unit, m = pure () → wpAny (model prog w) A.in1 m (fun _ s₁ => wpAny (model prog w) A.in1 (Builtin.«object.__getattribute__» ⟨[.ref x, .str "__class__" t], []⟩) (fun fin s' => match fin with
      | .done (.ret v) => v = .ref C ∧ s' = { heap := hh, gens := g, drawn := d, toks := t + 1, os := os }
      | _ => False) (fun _ _ => False) s₁) (fun _ _ => False) { heap := hh, gens := g, drawn := d, toks := t + 1, os := os } := fun m hm => by
    rw [hm]
    refine wpAny_pure ?_
    unfold Builtin.«object.__getattribute__»
    iterate 14 lk
    refine wpAny_bind (a0.at (wpAny_bind (a3.at ?_)))
    refine wpAny_bind (wpAny_holding (wpAny_call (exc_get X I k (wpAny_pure ⟨rfl, rfl⟩))))
  refine wpAny_mono (a8 _ ?_) (fun _ s1 z => wpAny_mono z (fun fin s' z' => ?_) fun _ _ z => z.elim) fun _ _ z => z.elim
  · split
    · rename_i sig hs
      rw [hs] at a7
      exact a7
    · rfl
  · rcases fin with (_ | _ | _ | v) | _
    all_goals first | exact z'.elim | skip
    obtain ⟨rfl, rfl⟩ := z'
    exact wpAny_pure (wpAny_pure h)
open PySem.W in
theorem looks_isType {M : Model} {h : Heap} {b : Value} {r : Bool} (X : K.In h) (e : mroIn K C b = some r) : Looks M h (isType (.ref C)) true := by
  obtain ⟨cd, hc, _⟩ := Option.bind_eq_some_iff.mp e
  unfold clsIn at hc
  split at hc
  · rename_i ho
    intro A' Q' E' s' k q
    unfold isType loadHead
    exact wpAny_bind (wpAny_loadPart (k _ _ (X _ _ ho)) (wpAny_pure q))
  · cases hc
open PySem.W in
theorem kitx_exc (k : Ek K C) : KitX K (.ref x) (.ref C) (ExAt x C) where
  ty := fun M h _ p => p.type
  it := fun M h X _ => looks_isType X k.mO
  ne := fun h tp dd its n sl X ht => by
    refine Bool.eq_false_iff.mpr fun q => ?_
    cases beq_iff_eq.mp q
    obtain ⟨cd, hc, _⟩ := Option.bind_eq_some_iff.mp k.mO
    unfold clsIn at hc
    split at hc
    · rename_i ho
      have := X _ _ ho
      rw [ht] at this
      cases this
    · cases hc
  ca := fun X p q => exc_cls X p k q
end
/-- a base of the class, of the text's own -/
structure Eb (K : PySem.W.Frag) (B C : Addr) : Prop where
  ty : PySem.W.typeIn K (.ref B) = some (.type "type")
  mB : PySem.W.mroIn K B (.type "BaseException") = some true
  sub : PySem.W.mroIn K C (.ref B) = some true
section
variable {prog : Program} {w : World} {A : Around} {E : Value → Shared → Prop} {s : Shared} {K : PySem.W.Frag} {x B C : Addr}
open PySem.W in
theorem exc_matches {Q : Bool → Shared → Prop} (X : K.In s.heap) (I : ExAt x C s.heap) (b : Eb K B C) (h : Q true s) : wpAny (model prog w) A (excMatches (.ref x) (.ref B)) Q E s := by
  obtain ⟨hh, g, d, t, os⟩ := s
  have a0 := I.type (M := model prog w)
  have a1 := looks_typeIn (M := model prog w) X b.ty
  have a2 := looks_mroIn (M := model prog w) X b.mB
  have a3 := looks_mroIn (M := model prog w) X b.sub
  have a4 := looks_isType (M := model prog w) X b.mB
  have a5 : Looks (model prog w) hh (isInstance (.ref B) (.type "tuple")) false := a1.andThen (Looks.of_pure tc_notTuple)
  have a6 : Looks (model prog w) hh (isExcClass (.ref B)) true := a4.andThen a2
  unfold excMatches
  refine wpAny_bind (a5.at ?_)
  repeat lk
  exact h
end
/-! ### except B as e -/
section
variable {X : Cx} {pins : List (Addr × Obj)} {σ : St} {H H' : Hp} {s s' : Shared} {b1 : Heap} {a C : Addr}
/-- a local name is taken away -/
theorem goes_ok {M : Model} {A : Around} {E : Value → Shared → Prop} {i : Nat} {y : Str} {pos : Pos} {Q : Unit → Shared → Prop} (I : Inv X pins σ H s) (hN : X.N.Nodup) (hi : X.N[i]? = some y) (hk : X.env.scope.names.lookup y = some .local)
    (h : ∀ s', Inv X pins (σ.set i none) H s' → Q () s') : wpAny M A (do bindName X.env y .none; unbindBehindTheSuite X.env y pos) Q E s := by
  have hp : (X.env.scope.kind == .class || (X.env.scope.kind == .module && X.env.locals != X.env.globals)) = false := by rw [I.ok.kind]; rfl
  have hl : X.env.kindOf y = some .local := hk
  have hiσ : i < σ.length := by rw [I.len]; exact (List.getElem?_eq_some_iff.mp hi).1
  refine wpAny_bind (wpAny_bindName (store_ok (v := .non) I hN hi (.inl hk) rfl (fun s1 I1 => ?_) (.inr hk)))
  unfold unbindBehindTheSuite unbindName
  refine wpAny_onRaise (wpAny_bind (wpAny_point (wpAny_bind ?_)))
  obtain ⟨m, hn, hm⟩ := id I1.loc
  have hy : m y = some Value.none := by
    obtain ⟨u, ru, q⟩ := hm i y .non hi (List.getElem?_set_self hiσ) (.inl hk)
    cases (show u = Value.none from ru)
    rcases q with ⟨_, e⟩ | ⟨k, _⟩
    · exact e
    · rw [hl] at k; rcases k with k | k <;> cases k
  unfold deleteName
  simp only [hl, hp]
  rw [if_neg (by decide)]
  refine wpAny_bind (wpAny_nsDel_keeps hn fun h2 v hn2 hs => ?_)
  rw [hy]
  have cne := I1.cne
  obtain ⟨oL, _, _, hoL, _⟩ := id hn
  have I2 : Inv X pins (σ.set i none) H { s1 with heap := h2 } := by
    have nb : ∀ b o, X.s₀.heap.get? b = some o → b ≠ X.env.locals := fun b o e => Nat.ne_of_lt (Nat.lt_of_lt_of_le (Heap.lt_size e) I1.ok.above)
    refine ⟨I1.ok, I1.os, I1.bare, ⟨fun b o e n hb hx => (hs.2 b (nb b o e)).trans (I1.base.keep b o e n hb hx), fun b o e n hb hx => ?_, I1.base.free, fun b o e hx => ?_, I1.base.tups, I1.base.frzs, I1.base.tbls⟩, ⟨_, hn2, fun j z v' e1 e2 e3 => ?_⟩, fun z c e => ?_, I1.free, I1.freeC, fun p hq => ?_, fun b ob e => ?_, by simpa using I1.len⟩
    · obtain ⟨sl, e1⟩ := I1.base.slot b o e n hb hx
      exact ⟨sl, (hs.2 b (nb b o e)).trans e1⟩
    · obtain ⟨o', e1⟩ := I1.base.there b o e hx
      exact ⟨o', (hs.2 b (nb b o e)).trans e1⟩
    · by_cases hj : j = i
      · rw [hj, List.getElem?_set_self hiσ] at e2
        cases e2
      · rw [List.getElem?_set_ne (Ne.symm hj)] at e2
        obtain ⟨u', r', q⟩ := hm j z v' e1 (by rw [List.getElem?_set_ne (Ne.symm hj)]; exact e2) e3
        refine ⟨u', r', ?_⟩
        rcases q with ⟨k, e⟩ | ⟨k, c, e, zz⟩
        · refine .inl ⟨k, ?_⟩
          have : z ≠ y := fun e => hj (nodup_ix hN e1 (e ▸ hi))
          simp [this, e]
        · exact .inr ⟨k, c, e, zz.sameBut hs (cne z c e)⟩
    · obtain ⟨w', zz⟩ := I1.cell z c e
      exact ⟨w', zz.sameBut hs (cne z c e)⟩
    · obtain ⟨e, n, ne, nf, d⟩ := I1.pin p hq
      exact ⟨(hs.2 p.1 ne).trans e, n, ne, nf, d⟩
    · refine (I1.hok b ob e).stay (fun c w' hc q => (hs.2 c ?_).trans q) (fun _ q => q) fun _ _ q => q
      rintro rfl
      have fr := I1.free
      rcases hc with rfl | hc
      · rw [fr] at e; cases e
      · rw [fr] at hc; cases hc
  simp only [if_true, Option.isSome_some, Bool.not_true, Bool.false_eq_true, if_false]
  exact wpAny_pure (wpAny_point (h _ I2))
/-- an object that came up in a call is known from here on -/
theorem Inv.know {φ : Heap → Prop} (I : Inv X pins σ H s) (J : Inv X pins σ H' s') (n0 : s.heap.get? a = none) (nH : H' a = none) (hex : X.ex = []) (new : ObjOk X.prog X.w (upd H' a (.ext φ)) s'.heap a (.ext φ)) : Inv X pins σ (upd H' a (.ext φ)) s' := by
  have na : ∀ b o, s.heap.get? b = some o → b ≠ a := fun b o e z => by rw [z, n0] at e; cases e
  have old : ∀ b, b ≠ a → upd H' a (.ext φ) b = H' b := fun b hb => upd_ne hb
  have nh : ∀ b o, H' b = some o → b ≠ a := fun b o e z => by rw [z, nH] at e; cases e
  have na0 : ∀ b o, X.s₀.heap.get? b = some o → b ≠ a := fun b o e => by
    obtain ⟨o', e'⟩ := I.base.there b o e (by rw [hex]; simp)
    exact na b o' e'
  refine ⟨J.ok, J.os, J.bare, ⟨J.base.keep, J.base.slot, fun b o e n hx => ?_, J.base.there, fun b xs e => ?_, fun b o u e => ?_, fun b ps e => ?_⟩, J.loc, J.cell, ?_, fun x c e => ?_, fun p hp => ?_, fun b o e => ?_, J.len⟩
  · rw [old b (na0 b o e)]; exact J.base.free b o e n hx
  · have := J.base.tups b xs e
    rw [old b (nh b _ this)]; exact this
  · have := J.base.frzs b o u e
    rw [old b (nh b _ this)]; exact this
  · obtain ⟨more, this⟩ := J.base.tbls b ps e
    exact ⟨more, by rw [old b (nh b _ this)]; exact this⟩
  · obtain ⟨m, hn, _⟩ := id I.loc
    obtain ⟨oL, _, _, hoL, _⟩ := hn
    rw [old _ (na _ _ hoL)]; exact J.free
  · obtain ⟨v, oc, hoc, _⟩ := I.cell x c e
    rw [old _ (na _ _ hoc)]; exact J.freeC x c e
  · obtain ⟨e0, _⟩ := I.pin p hp
    obtain ⟨e, n, ne, nf, d⟩ := J.pin p hp
    exact ⟨e, by rw [old _ (na _ _ e0)]; exact n, ne, nf, d⟩
  · by_cases hb : b = a
    · subst hb
      rw [upd_same] at e
      cases e
      exact new
    · rw [old b hb] at e
      exact (J.hok b o e).stay (fun _ _ _ q => q) (fun c q => by rw [old c (nh c _ q)]; exact q) fun c xs q => by rw [old c (nh c _ q)]; exact q
theorem ext_ok {P : Program} {w : World} {h : Heap} (e : ExAt a C h) : ObjOk P w H h a (.ext (ExAt a C)) := by
  obtain ⟨o, h1, h2⟩ := id e
  refine ⟨e, ⟨o, h1⟩, fun ha hb ⟨o', e1, e2⟩ k => ⟨o', k o' e1, e2⟩⟩
end
section
variable {X : Cx} {x f : Str} {B C : Addr} {p2 cpos epos pos hp npos : Pos} {e : Expr} {es : List Expr} {ta : TA} {i k : Nat} {y : Str} {ps : List Str} {sp : Sp} {b₀ : Stmt} {suite : List Stmt} {ts : TS}
noncomputable def tTryA (sp : Sp) (C : Addr) (i : Nat) (ta : TA) (ts : TS) : TS := fun D σ H => ta σ H fun vs H1 => sp vs H1 (fun _ H2 => D.nx σ H2) fun c _ H2 => c = .ref C ∧ ∀ a, H2 a = none → ts { nx := fun σ' H' => D.nx (σ'.set i none) H', rt := fun _ _ => False } (σ.set i (some (.ref a))) (upd H2 a (.ext (ExAt a C)))
theorem ps_tryA (D : Kx X.prog X.w X.K X.mg X.base f k ps sp) (hr : Room k X.A) (hg : Gl X f) (cb : X.mg x = some (.ref B)) (eb : Eb X.K B C) (hgx : Gl X x) (ha : PA X.nox (e :: es) ta) (hN : X.N.Nodup) (hi : X.N[i]? = some y) (hk : X.env.scope.names.lookup y = some .local) (hs : ∀ v, PSs (X.marked v) (b₀ :: suite) ts)
    (hst : X.stack = X.env :: X.outer := by rfl) (hfr : X.env.frame = some X.env.locals := by rfl) (hex : X.ex = [] := by rfl)
    (hsw : swapsWith (.Call (.Name f p2) (e :: es) [] cpos) none epos.line X.env = pure false := by rfl)
    (hdb : (f == ("__debug__" : Str)) = false := by decide) (hdx : (x == ("__debug__" : Str)) = false := by decide) (he : starEach (e :: es) X.env = (false, eval e X.env) :: starEach es X.env := by rfl) (hpl : (backTo cpos (starEach es X.env)).any (·.1) = false := by rfl) :
    PS X (.Try [.Expr (.Call (.Name f p2) (e :: es) [] cpos) epos] [.ExceptHandler (some (.Name x npos)) (some y) (b₀ :: suite) hp] [] [] pos) (tTryA sp C i ta ts) := by
  intro pins s σ H Dn I h
  obtain ⟨fa, fd, F, hm, hkp, hb⟩ := D.ex
  refine wpAny_Try_except (wpAny_execs_cons (wpAny_Expr_any (wpAny_Call_Name_kw (ld_glob I hg hm ?_ hdb)) I.quiet hsw))
  refine PySem.W.callWith_K (h₀ := X.base) I.ok.mod.kin hkp (wpAny_mono (ha cpos pins s σ H _ (I.wish _) h) (fun us s1 ⟨vs, H1, I1', r, q⟩ => ?_) fun _ _ z => z.elim) he hpl
  have I1 : Inv X pins σ H1 s1 := I1'.unwish
  refine ⟨I1.kIn, ?_⟩
  have hl : us.length = ps.length := by rw [← r.length]; exact F.len _ _ _ _ q
  have hbn := hb s1 us I1.kIn (by rw [List.append_nil]; exact hl)
  rw [List.append_nil] at hbn
  refine wpAny_call (codeAny_mono (F.run X.A X.stack s1 H1 ⟨us, []⟩ us vs _ _ hr I1.env0 hbn r q) fun rr s2 hq => ?_)
  cases rr with
  | error ex =>
    obtain ⟨a, C', H2, b1, rfl, ho, hgb, Fl, hC, hT⟩ := hq
    cases hC
    obtain ⟨t, fl⟩ := Fl.fl
    rw [hst] at fl
    refine wpAny_looks_onW (outer := X.outer) (L := X.env.locals) (by rw [I1.ok.frames, hst]) hfr fl fun h1 hh1 u1 => ?_
    refine wpAny_landsW hh1 fun h2 fl2 u2 => ?_
    have F2 : Fly X.prog X.w X.stack H1 s1 H2 b1 a C h2 := Fl.step fl2.1 ⟨t, by rw [hst]; exact fl2⟩ (u1.trans u2)
    have I2 : Inv X pins σ H2 { s2 with heap := h2 } := Fly.inv (s' := { s2 with heap := h2 }) F2 I1 ho hgb
    refine wpAny_handleBy_cons (codeAny_handlers_test ?_) (by intro z; cases z)
    refine ld_glob (X := X.marked (some (.ref a))) I2.mark hgx cb ?_ hdx
    refine exc_matches I2.kIn fl2.there eb ?_
    refine codeAny_handlers_suite_as (lands_againW fl2 fun h3 fl3 u3 => ?_)
    have F3 : Fly X.prog X.w X.stack H1 s1 H2 b1 a C h3 := F2.step fl3.1 ⟨t, by rw [hst]; exact fl3⟩ u3
    have I3 : Inv X pins σ H2 { s2 with heap := h3 } := Fly.inv (s' := { s2 with heap := h3 }) F3 I1 ho hgb
    have K3 := Inv.know I1 I3 F3.new.1 F3.new.2 hex (ext_ok (a := a) (C := C) fl3.there)
    refine store_ok (X := X.marked (some (.ref a))) (v := .ref a) K3.mark hN hi (.inl hk) rfl (fun s4 I4 => ?_) (.inr hk)
    refine wpAny_mono (hs (some (.ref a)) pins s4 _ _ _ I4 (hT a F3.new.2)) (fun fl s5 z => ?_) fun _ _ z => z.elim
    cases fl with
    | next =>
      obtain ⟨σ', H', I5, q5⟩ := z
      exact goes_ok (I5.unmark I.ok) hN hi hk fun s6 I6 => ⟨_, _, I6, q5⟩
    | brk => obtain ⟨_, _, _, q5⟩ := z; exact q5.elim
    | cont => obtain ⟨_, _, _, q5⟩ := z; exact q5.elim
    | ret u => obtain ⟨_, _, _, _, _, q5⟩ := z; exact q5.elim
  | ok fl =>
    cases fl with
    | ret u =>
      obtain ⟨v, H2, I2, rv, qv⟩ := I1.after hq
      exact wpAny_execs_nil (wpAny_execs_nil ⟨_, H2, I2, qv⟩)
    | next => exact False.elim hq
    | brk => exact False.elim hq
    | cont => exact False.elim hq
end
/-! ### isinstance of an exception of the text's own -/
section
variable {X : Cx}
noncomputable def rIsiE (K : PySem.W.Frag) : List V → Hp → VK → Prop := fun xs H Q => ∃ (a C : Addr) (c : V) (cv : Value) (b : Bool), xs = [.ref a, c] ∧ H a = some (.ext (ExAt a C)) ∧ Ek K C ∧ (∀ u, RelV c u → u = cv) ∧ PySem.W.kitOne K (.ref C) cv = some b ∧ Q (.bl b) H
theorem call_isiE : CallR X (.builtin "isinstance") (rIsiE X.K) := by
  intro pins s σ H xs us Q I r h
  obtain ⟨a, C, c, cv, b, rfl, ha, ek, hc, e, q⟩ := h
  obtain ⟨u, w', rfl, r1, r2⟩ := Vals.two r
  cases (show u = Value.ref a from r1)
  cases hc _ r2
  obtain ⟨p, _, _⟩ := (show ObjOk X.prog X.w H s.heap a (.ext (ExAt a C)) from I.hok a _ ha)
  exact PySem.W.kia_one (kitx_exc ek) I.kIn p e (fun z => nomatch z) fun tk => ⟨.bl b, H, I.tok tk, rfl, q⟩
theorem call_isiEK {K : PySem.W.Frag} (hK : X.K = K) : CallR X (.builtin "isinstance") (rIsiE K) := hK ▸ call_isiE
noncomputable def rIsiT (K : PySem.W.Frag) : List V → Hp → VK → Prop := fun xs H Q => ∃ (a C tp : Addr) (cs : List Addr) (b : Bool), xs = [.ref a, .ref tp] ∧ H a = some (.ext (ExAt a C)) ∧ Ek K C ∧ H tp = some (.tup (cs.map V.ref)) ∧ PySem.W.kitAny K (.ref C) (cs.map Value.ref) = some b ∧ Q (.bl b) H
theorem vals_refs : ∀ {cs : List Addr} {us : List Value}, Vals (cs.map V.ref) us → us = cs.map Value.ref
  | [], _, .nil => rfl
  | c :: cs, _, .cons r t => by rw [vals_refs t, show _ = Value.ref c from r]; rfl
theorem call_isiT : CallR X (.builtin "isinstance") (rIsiT X.K) := by
  intro pins s σ H xs us Q I r h
  obtain ⟨a, C, tp, cs, b, rfl, ha, ek, ht, e, q⟩ := h
  obtain ⟨u, w', rfl, r1, r2⟩ := Vals.two r
  cases (show u = Value.ref a from r1)
  cases (show w' = Value.ref tp from r2)
  obtain ⟨p, _, _⟩ := (show ObjOk X.prog X.w H s.heap a (.ext (ExAt a C)) from I.hok a _ ha)
  obtain ⟨_, its, rv, o, ho, hoc, n, hod⟩ := (show ObjOk X.prog X.w H s.heap tp (.tup (cs.map V.ref)) from I.hok tp _ ht)
  cases vals_refs rv
  obtain ⟨oc, dd, od, sl⟩ := o
  dsimp only at hoc hod
  subst hoc hod
  exact PySem.W.kia_tup (kitx_exc ek) I.kIn p ho e (fun z => nomatch z) fun tk => ⟨.bl b, H, I.tok tk, rfl, q⟩
theorem call_isiTK {K : PySem.W.Frag} (hK : X.K = K) : CallR X (.builtin "isinstance") (rIsiT K) := hK ▸ call_isiT
end
/-! ### the classes of a law that asks for refusals -/
structure Exs (K : PySem.W.Frag) (mg : Str → Option Value) (C B D1 D2 D3 : Addr) : Prop where
  c : Ec K mg "NoBack" C
  ek : Ek K C
  b : mg "MillError" = some (.ref B)
  eb : Eb K B C
  d1 : mg "NoText" = some (.ref D1)
  d2 : mg "NoName" = some (.ref D2)
  d3 : mg "NoRow" = some (.ref D3)
  no : PySem.W.kitAny K (.ref C) [.ref D1, .ref D2, .ref D3] = some false
  ve : PySem.W.kitOne K (.ref C) (.type "ValueError") = some true
theorem exs_mk {K : PySem.W.Frag} {mg : Str → Option Value} {h : Heap} {C B D1 D2 D3 : Addr} (X : K.In h) (G : h.Ns mainGlobals mg) (a : PySem.W.nsIn K mainGlobals "NoBack" = some (some (.ref C))) (a1 : PySem.W.nsIn K mainGlobals "MillError" = some (some (.ref B)))
    (a2 : PySem.W.nsIn K mainGlobals "NoText" = some (some (.ref D1))) (a3 : PySem.W.nsIn K mainGlobals "NoName" = some (some (.ref D2))) (a4 : PySem.W.nsIn K mainGlobals "NoRow" = some (some (.ref D3)))
    (b : PySem.W.excIn K C [Value.type "ValueError", Value.type "Exception", Value.type "BaseException", Value.type "object"] "ValueError.__new__" = true)
    (k1 : PySem.W.findIn K (.ref C) "__getattribute__" = some (some (.builtin "BaseException.__getattribute__"))) (k2 : PySem.W.findIn K (.ref C) "__getattr__" = some none) (k3 : PySem.W.findIn K (.ref C) "__class__" = some (some (.builtin "object.__class__")))
    (k4 : PySem.W.specialIn K (.builtin "object.__class__") "__get__" = some (some (.builtin "getset_descriptor.__get__"))) (k5 : PySem.W.takesIn K (.builtin "object.__class__") = some true) (k6 : PySem.W.mroIn K C (.type "BaseException") = some true) (k7 : PySem.W.mroIn K C (.type "object") = some true)
    (e1 : PySem.W.typeIn K (.ref B) = some (.type "type")) (e2 : PySem.W.mroIn K B (.type "BaseException") = some true) (e3 : PySem.W.mroIn K C (.ref B) = some true) (no : PySem.W.kitAny K (.ref C) [.ref D1, .ref D2, .ref D3] = some false) (ve : PySem.W.kitOne K (.ref C) (.type "ValueError") = some true) :
    ∃ C B D1 D2 D3, Exs K mg C B D1 D2 D3 :=
  ⟨C, B, D1, D2, D3, ⟨PySem.W.mg_of X G a, b⟩, ⟨k1, k2, k3, k4, k5, k6, k7⟩, PySem.W.mg_of X G a1, ⟨e1, e2, e3⟩, PySem.W.mg_of X G a2, PySem.W.mg_of X G a3, PySem.W.mg_of X G a4, no, ve⟩
end L2

set_option maxHeartbeats 2000000
namespace L2
open PySem PySem.Spec PyProof.Rows
section
variable {X : Cx}
/-! ### list.insert -/
noncomputable def rInsert : V → List V → Hp → VK → Prop := fun x vs H Q => ∃ (l : Addr) (xs : List V) (i : Nat) (y : V), x = .ref l ∧ vs = [.int (i : Int), y] ∧ H l = some (.lst xs) ∧ i ≤ xs.length ∧ xs.length < sizeLine ∧ Q .non (upd H l (.lst (xs.take i ++ y :: xs.drop i)))
theorem ins_eq (its : List Value) (i : Nat) (u : Value) (hi : i ≤ its.length) : (its.toArray.extract 0 i).push u ++ its.toArray.extract i = (its.take i ++ u :: its.drop i).toArray := by
  apply Array.toList_inj.mp
  simp [List.take_of_length_le]
theorem mt_insert : MtM X "list.insert" rInsert := by
  intro pins s σ H x vs v us Q I rx rv h
  obtain ⟨l, xs, i, y, rfl, rfl, hH, hi, hz, q⟩ := h
  cases rx
  obtain ⟨u1, u2, rfl, r1, r2⟩ := Vals.two rv
  obtain ⟨t, rfl⟩ := r1
  obtain ⟨z, its, n, r, hl, e⟩ := I.lstM hH
  have szl : sizeLine = 16777216 := by decide
  have f1 : ∀ j : Int, j = (i : Int) → ¬ (!Builtin.List.listFitsIndex j) = true := fun j hj => by
    rw [fitsIndex_both (by (first | lia | omega)) (by (first | lia | omega))]; exact Bool.false_ne_true
  have f2 : its.toArray.size ≤ sizeLine := by rw [List.size_toArray]; (first | lia | omega)
  generalize hj : (i : Int) = j at *
  have M1 := AutoSeq1.list_insert_list_int_val_1 l its.toArray n j t u2 (f1 j rfl) f2
  refine call_meets F.slot_list_insert ⟨_, e, rfl⟩ F.entry_list_insert (F.args_list_insert_3 _ _ _) M1 ⟨e, ?_⟩
  refine ⟨.non, _, I.lset (its' := its.take i ++ u2 :: its.drop i) hH e ?_ ?_ ?_, rfl, q⟩
  · show (have k := if j < 0 then (j + (its.toArray.size : Int)).toNat else min j.toNat its.toArray.size; (its.toArray.extract 0 k).push u2 ++ its.toArray.extract k) = _
    have ek : (if j < 0 then (j + (its.toArray.size : Int)).toNat else min j.toNat its.toArray.size) = i := by
      rw [if_neg (by (first | lia | omega)), List.size_toArray]; (first | lia | omega)
    simp only [ek]
    exact ins_eq its i u2 (by (first | lia | omega))
  · exact pd_app (pd_takeN r i) (.cons r2 (pd_dropN r i))
  · rw [List.length_append, List.length_take, List.length_cons, List.length_drop]; (first | lia | omega)
end
end L2

namespace L2
open PySem PySem.Spec PyProof.Rows Nm La Lean.Grind
/-! ### a table brought to steps, row by row -/
noncomputable def elR (k : Int) (j : Nat) (x y : List Nb) : List Nb := List.zipWith (nsub k) (y.map (nmul k (x.getD j (.z 0)))) (x.map (nmul k (y.getD j (.z 0))))
section
variable {k : Int} {n : Nat} {F : Type} [Field F] {φ : Kf k F}
noncomputable def Zb (φ : Kf k F) (j : Nat) (x : List Nb) : Prop := ∀ q, q < j → nv φ x q = 0
theorem el_ok (hk : KindOk k) {j : Nat} {x y : List Nb} (hj : j < n) (lx : x.length = n) (ly : y.length = n) (ox : OkR k x) (oy : OkR k y) : (elR k j x y).length = n ∧ OkR k (elR k j x y) := by
  have cx := getD_okN ox (show j < x.length by (first | lia | omega))
  have cy := getD_okN oy (show j < y.length by (first | lia | omega))
  refine ⟨by unfold elR; simp [lx, ly], fun z hz => ?_⟩
  unfold elR at hz
  obtain ⟨i, hi, rfl⟩ := List.getElem_of_mem hz
  rw [List.getElem_zipWith, List.getElem_map, List.getElem_map]
  exact nsub_ok hk.lt.1 (zmul_ok hk cx (oy _ (List.getElem_mem _))) (zmul_ok hk cy (ox _ (List.getElem_mem _)))
theorem nv_el (hk : KindOk k) {j : Nat} {x y : List Nb} (hj : j < n) (lx : x.length = n) (ly : y.length = n) (ox : OkR k x) (oy : OkR k y) (q : Nat) : nv φ (elR k j x y) q = nv φ x j * nv φ y q - nv φ y j * nv φ x q := by
  have cx := getD_okN ox (show j < x.length by (first | lia | omega))
  have cy := getD_okN oy (show j < y.length by (first | lia | omega))
  unfold elR
  have h1 : ∀ z ∈ y.map (nmul k (x.getD j (.z 0))), z.ok k := fun z hz => by
    obtain ⟨w, hw, rfl⟩ := List.mem_map.mp hz
    exact zmul_ok hk cx (oy w hw)
  have h2 : ∀ z ∈ x.map (nmul k (y.getD j (.z 0))), z.ok k := fun z hz => by
    obtain ⟨w, hw, rfl⟩ := List.mem_map.mp hz
    exact zmul_ok hk cy (ox w hw)
  rw [nv_zip (by simp [lx, ly]) (fun a b => a - b) (by grind) (fun a ha b hb => φ.sub (h1 a ha) (h2 b hb)), nv_map (fun z => φ.to (x.getD j (.z 0)) * z) (by grind) (fun z hz => φ.mul cx (oy z hz)), nv_map (fun z => φ.to (y.getD j (.z 0)) * z) (by grind) (fun z hz => φ.mul cy (ox z hz)),
    nv_getD (by (first | lia | omega)), nv_getD (by (first | lia | omega))]
structure Rk (φ : Kf k F) (n : Nat) (M : List (List Nb)) (j : Nat) (ls : List Nat) (Up Lo : List (List Nb)) : Prop where
  okU : OkM k n Up
  okL : OkM k n Lo
  to : ∀ v, Rm φ M v → Rm φ (Up ++ Lo) v
  fro : ∀ v, Rm φ (Up ++ Lo) v → Rm φ M v
  inc : ls.Pairwise (· < ·)
  lt : ∀ l ∈ ls, l < j
  ll : ls.length = Up.length
  ld : ∀ (p l : Nat) (x : List Nb), ls[p]? = some l → Up[p]? = some x → Zb φ l x ∧ nv φ x l ≠ 0
  lo : ∀ x ∈ Lo, Zb φ j x
variable {M Up Lo : List (List Nb)} {ls : List Nat} {j : Nat}
theorem Rk.start (oM : OkM k n M) : Rk φ n M 0 [] [] M :=
  ⟨fun _ h => (nomatch h), oM, fun _ h => h, fun _ h => h, .nil, fun _ h => (nomatch h), rfl, fun p l x h => (by simp at h), fun x _ q hq => absurd hq (Nat.not_lt_zero q)⟩
theorem Rk.skip (h : Rk φ n M j ls Up Lo) (z : ∀ x ∈ Lo, nv φ x j = 0) : Rk φ n M (j + 1) ls Up Lo :=
  ⟨h.okU, h.okL, h.to, h.fro, h.inc, fun l hl => Nat.lt_succ_of_lt (h.lt l hl), h.ll, h.ld, fun x hx q hq => by
    rcases Nat.lt_succ_iff_lt_or_eq.mp hq with c | c
    · exact h.lo x hx q c
    · rw [c]; exact z x hx⟩
theorem Rk.step (hk : KindOk k) {L1 L2 : List (List Nb)} {x : List Nb} (h : Rk φ n M j ls Up (L1 ++ x :: L2)) (hj : j < n) (ne : nv φ x j ≠ 0) : Rk φ n M (j + 1) (ls ++ [j]) (Up ++ [x]) ((L1 ++ L2).map (elR k j x)) := by
  have mx : x ∈ L1 ++ x :: L2 := List.mem_append_right _ List.mem_cons_self
  have ox := h.okL x mx
  have my : ∀ y ∈ L1 ++ L2, y ∈ L1 ++ x :: L2 := fun y hy => (List.mem_append.mp hy).elim (List.mem_append_left _) fun z => List.mem_append_right _ (List.mem_cons_of_mem _ z)
  have oy : ∀ y ∈ L1 ++ L2, y.length = n ∧ OkR k y := fun y hy => h.okL y (my y hy)
  have ev : ∀ y ∈ L1 ++ L2, ∀ q, nv φ (elR k j x y) q = nv φ x j * nv φ y q - nv φ y j * nv φ x q := fun y hy q => nv_el hk hj ox.1 (oy y hy).1 ox.2 (oy y hy).2 q
  refine ⟨fun r hr => ?_, fun r hr => ?_, fun v hv => ?_, fun v hv => ?_, ?_, fun l hl => ?_, by rw [List.length_append, List.length_append, h.ll]; rfl, fun p l z hp hz => ?_, fun r hr q hq => ?_⟩
  · rcases List.mem_append.mp hr with c | c
    · exact h.okU r c
    · rw [List.mem_singleton.mp c]; exact ox
  · obtain ⟨y, hy, rfl⟩ := List.mem_map.mp hr
    exact el_ok hk hj ox.1 (oy y hy).1 ox.2 (oy y hy).2
  · refine (h.to v hv).bind fun r ⟨z, hz, e⟩ => ?_
    have gx : Rm φ ((Up ++ [x]) ++ (L1 ++ L2).map (elR k j x)) (nv φ x) := .of ⟨x, by simp, rfl⟩
    rcases List.mem_append.mp hz with c | c
    · rw [e]; exact .of ⟨z, by simp [c], rfl⟩
    · have c' : z = x ∨ z ∈ L1 ++ L2 := by
        rcases List.mem_append.mp c with d | d
        · exact .inr (List.mem_append_left _ d)
        · rcases List.mem_cons.mp d with d | d
          · exact .inl d
          · exact .inr (List.mem_append_right _ d)
      rcases c' with d | d
      · rw [e, d]; exact gx
      · have ge : Rm φ ((Up ++ [x]) ++ (L1 ++ L2).map (elR k j x)) (nv φ (elR k j x z)) := .of ⟨elR k j x z, List.mem_append_right _ (List.mem_map_of_mem d), rfl⟩
        rw [e]
        refine (Span.lin (nv φ x j)⁻¹ ((nv φ x j)⁻¹ * nv φ z j) ge gx).cast fun q => ?_
        rw [ev z d q]
        have : (nv φ x j)⁻¹ * nv φ x j = 1 := Field.inv_mul_cancel ne
        grind
  · refine h.fro v (hv.bind fun r ⟨z, hz, e⟩ => ?_)
    have gx : Rm φ (Up ++ (L1 ++ x :: L2)) (nv φ x) := .of ⟨x, List.mem_append_right _ mx, rfl⟩
    rcases List.mem_append.mp hz with c | c
    · rcases List.mem_append.mp c with c | c
      · rw [e]; exact .of ⟨z, List.mem_append_left _ c, rfl⟩
      · rw [e, List.mem_singleton.mp c]; exact gx
    · obtain ⟨y, hy, rfl⟩ := List.mem_map.mp c
      have gy : Rm φ (Up ++ (L1 ++ x :: L2)) (nv φ y) := .of ⟨y, List.mem_append_right _ (my y hy), rfl⟩
      rw [e]
      refine (Span.lin (nv φ x j) (- nv φ y j) gy gx).cast fun q => ?_
      rw [ev y hy q]; grind
  · rw [List.pairwise_append]
    exact ⟨h.inc, List.pairwise_singleton _ _, fun a ha b hb => by rw [List.mem_singleton.mp hb]; exact h.lt a ha⟩
  · rcases List.mem_append.mp hl with c | c
    · exact Nat.lt_succ_of_lt (h.lt l c)
    · rw [List.mem_singleton.mp c]; exact Nat.lt_succ_self j
  · rcases Nat.lt_or_ge p ls.length with c | c
    · rw [List.getElem?_append_left c] at hp
      rw [List.getElem?_append_left (by rw [← h.ll]; exact c)] at hz
      exact h.ld p l z hp hz
    · rw [List.getElem?_append_right c] at hp
      rw [List.getElem?_append_right (by rw [← h.ll]; exact c)] at hz
      have ep : p - ls.length = 0 := by
        have := (List.getElem?_eq_some_iff.mp hp).1
        simp at this; (first | lia | omega)
      rw [ep] at hp
      rw [← h.ll, ep] at hz
      simp at hp hz
      rw [← hp, ← hz]
      exact ⟨h.lo x mx, ne⟩
  · obtain ⟨y, hy, rfl⟩ := List.mem_map.mp hr
    rw [ev y hy q]
    rcases Nat.lt_succ_iff_lt_or_eq.mp hq with c | c
    · rw [h.lo x mx q c, h.lo y (my y hy) q c]; grind
    · rw [c]; grind
theorem inc_lo : ∀ (ls : List Nat) (a p l : Nat), ls.Pairwise (· < ·) → (∀ x ∈ ls, a ≤ x) → ls[p]? = some l → a + p ≤ l
  | [], _, p, l, _, _, h => by simp at h
  | x :: xs, a, 0, l, _, ha, h => by simp at h; rw [← h]; exact ha x List.mem_cons_self
  | x :: xs, a, p + 1, l, hp, ha, h => by
    obtain ⟨h1, h2⟩ := List.pairwise_cons.mp hp
    have := inc_lo xs (x + 1) p l h2 (fun y hy => h1 y hy) (by simpa using h)
    have := ha x List.mem_cons_self
    (first | lia | omega)
theorem inc_hi : ∀ (ls : List Nat) (n p l : Nat), ls.Pairwise (· < ·) → (∀ x ∈ ls, x < n) → ls[p]? = some l → l + ls.length ≤ n + p
  | [], _, p, l, _, _, h => by simp at h
  | [x], n, p, l, _, ha, h => by
    have : p = 0 := by have := (List.getElem?_eq_some_iff.mp h).1; simp at this; (first | lia | omega)
    subst this
    simp at h
    have := ha x List.mem_cons_self
    simp; (first | lia | omega)
  | x :: y :: ys, n, 0, l, hp, ha, h => by
    obtain ⟨h1, h2⟩ := List.pairwise_cons.mp hp
    have := inc_hi (y :: ys) n 0 y h2 (fun z hz => ha z (List.mem_cons_of_mem _ hz)) rfl
    have := h1 y List.mem_cons_self
    simp at h
    simp at *
    (first | lia | omega)
  | x :: y :: ys, n, p + 1, l, hp, ha, h => by
    obtain ⟨h1, h2⟩ := List.pairwise_cons.mp hp
    have := inc_hi (y :: ys) n p l h2 (fun z hz => ha z (List.mem_cons_of_mem _ hz)) (by simpa using h)
    simp at *
    (first | lia | omega)
theorem Rk.less (h : Rk φ n M n ls Up Lo) : ∀ v, Rm φ M v → Rm φ Up v := fun v hv => (h.to v hv).bind fun r ⟨z, hz, e⟩ => by
  rcases List.mem_append.mp hz with c | c
  · rw [e]; exact .of ⟨z, c, rfl⟩
  · refine Span.zero.cast fun q => ?_
    rw [e]
    rcases Nat.lt_or_ge q n with hq | hq
    · exact (h.lo z c q hq).symm
    · exact (nv_out φ (by rw [(h.okL z c).1]; exact hq)).symm
theorem Rk.full (h : Rk φ n M n ls Up Lo) (l : Up.length = n) : ∀ p, p < n → ∃ v, Rm φ M v ∧ (∀ j, j < p → v j = 0) ∧ v p ≠ 0 := fun p hp => by
  obtain ⟨e, hl⟩ : ∃ e, ls[p]? = some e := ⟨_, List.getElem?_eq_getElem (show p < ls.length by rw [h.ll, l]; exact hp)⟩
  obtain ⟨u, hu⟩ : ∃ u, Up[p]? = some u := ⟨_, List.getElem?_eq_getElem (show p < Up.length by rw [l]; exact hp)⟩
  have a := inc_lo ls 0 p _ h.inc (fun _ _ => Nat.zero_le _) hl
  have b := inc_hi ls n p _ h.inc h.lt hl
  rw [h.ll, l] at b
  have ee : e = p := by (first | lia | omega)
  obtain ⟨z, ne⟩ := h.ld p _ _ hl hu
  rw [ee] at z ne
  exact ⟨nv φ u, h.fro _ (.of ⟨_, List.mem_append_left _ (List.mem_of_getElem? hu), rfl⟩), z, ne⟩
end
end L2

namespace KL
open PySem PySem.Spec PyProof.Rows L2 Nm
set_option maxHeartbeats 4000000
noncomputable def top (i : Nat) : Stmt := PySem.Challenge.pw_steermill_k06_backs.main.body.getD i (.Pass ⟨0, 0, 0, 0⟩)
noncomputable abbrev s_common_divisor : Stmt := top 7
theorem sc_common_divisor : FnScope ["one", "other", "left", "right", "rest"] ["one", "other"] (defScope s_common_divisor) := ⟨rfl, rfl, rfl, by decide +kernel, rfl, by decide +kernel, by decide +kernel⟩
noncomputable abbrev s_fraction : Stmt := top 8
theorem sc_fraction : FnScope ["top", "bottom", "divisor"] ["top", "bottom"] (defScope s_fraction) := ⟨rfl, rfl, rfl, by decide +kernel, rfl, by decide +kernel, by decide +kernel⟩
noncomputable abbrev s_one_over : Stmt := top 9
theorem sc_one_over : FnScope ["prime", "rest", "left", "right", "many_left", "many_right", "whole", "less", "many_less"] ["prime", "rest"] (defScope s_one_over) := ⟨rfl, rfl, rfl, by decide +kernel, rfl, by decide +kernel, by decide +kernel⟩
noncomputable abbrev s_number : Stmt := top 10
theorem sc_number : FnScope ["kind", "whole"] ["kind", "whole"] (defScope s_number) := ⟨rfl, rfl, rfl, by decide +kernel, rfl, by decide +kernel, by decide +kernel⟩
noncomputable abbrev s_over : Stmt := top 11
theorem sc_over : FnScope ["kind", "one", "other"] ["kind", "one", "other"] (defScope s_over) := ⟨rfl, rfl, rfl, by decide +kernel, rfl, by decide +kernel, by decide +kernel⟩
noncomputable abbrev s_scaled : Stmt := top 13
theorem sc_scaled : FnScope ["kind", "row", "bottom", "part"] ["kind", "row"] (defScope s_scaled) := ⟨rfl, rfl, rfl, by decide +kernel, rfl, by decide +kernel, by decide +kernel⟩
noncomputable abbrev s_quotient : Stmt := top 14
theorem sc_quotient : FnScope ["kind", "top", "bottom"] ["kind", "top", "bottom"] (defScope s_quotient) := ⟨rfl, rfl, rfl, by decide +kernel, rfl, by decide +kernel, by decide +kernel⟩
noncomputable abbrev s_eased : Stmt := top 15
theorem sc_eased : FnScope ["kind", "wholes", "divisor", "whole"] ["kind", "wholes"] (defScope s_eased) := ⟨rfl, rfl, rfl, by decide +kernel, rfl, by decide +kernel, by decide +kernel⟩
noncomputable abbrev s_cleared : Stmt := top 16
theorem sc_cleared : FnScope ["kind", "row", "lead_row", "column"] ["kind", "row", "lead_row", "column"] (defScope s_cleared) := ⟨rfl, rfl, rfl, by decide +kernel, rfl, by decide +kernel, by decide +kernel⟩
noncomputable abbrev s_swept : Stmt := top 17
theorem sc_swept : FnScope ["kind", "rows", "done", "waiting", "width", "column", "leading", "lead_row"] ["kind", "rows"] (defScope s_swept) := ⟨rfl, rfl, rfl, by decide +kernel, rfl, by decide +kernel, by decide +kernel⟩
noncomputable abbrev s_abreast : Stmt := top 19
theorem sc_abreast : FnScope ["one", "other"] ["one", "other"] (defScope s_abreast) := ⟨rfl, rfl, rfl, by decide +kernel, rfl, by decide +kernel, by decide +kernel⟩
noncomputable abbrev s_unit : Stmt := top 20
theorem sc_unit : FnScope ["kind", "size"] ["kind", "size"] (defScope s_unit) := ⟨rfl, rfl, rfl, by decide +kernel, rfl, by decide +kernel, by decide +kernel⟩
noncomputable abbrev s_over_lead : Stmt := top 21
theorem sc_over_lead : FnScope ["kind", "wholes", "lead"] ["kind", "wholes"] (defScope s_over_lead) := ⟨rfl, rfl, rfl, by decide +kernel, rfl, by decide +kernel, by decide +kernel⟩
noncomputable abbrev s_reduced : Stmt := top 22
theorem sc_reduced : FnScope ["kind", "rows", "wholes"] ["kind", "rows"] (defScope s_reduced) := ⟨rfl, rfl, rfl, by decide +kernel, rfl, by decide +kernel, by decide +kernel⟩
noncomputable abbrev s_back : Stmt := top 23
theorem sc_back : FnScope ["kind", "table", "size", "units", "rows"] ["kind", "table"] (defScope s_back) := ⟨rfl, rfl, rfl, by decide +kernel, rfl, by decide +kernel, by decide +kernel⟩
noncomputable abbrev s__law_mix : Stmt := top 25
theorem sc__law_mix : FnScope ["_law_cell", "_law_j", "_law_mixed"] ["_law_cell", "_law_j"] (defScope s__law_mix) := ⟨rfl, rfl, rfl, by decide +kernel, rfl, by decide +kernel, by decide +kernel⟩
noncomputable abbrev s__law_whole : Stmt := top 26
theorem sc__law_whole : FnScope ["_law_found"] ["_law_found"] (defScope s__law_whole) := ⟨rfl, rfl, rfl, by decide +kernel, rfl, by decide +kernel, by decide +kernel⟩
noncomputable abbrev s__law_divisor : Stmt := top 27
theorem sc__law_divisor : FnScope ["_law_one", "_law_other"] ["_law_one", "_law_other"] (defScope s__law_divisor) := ⟨rfl, rfl, rfl, by decide +kernel, rfl, by decide +kernel, by decide +kernel⟩
noncomputable abbrev s__law_is_prime : Stmt := top 28
theorem sc__law_is_prime : FnScope ["_law_whole_here", "_law_by"] ["_law_whole_here"] (defScope s__law_is_prime) := ⟨rfl, rfl, rfl, by decide +kernel, rfl, by decide +kernel, by decide +kernel⟩
noncomputable abbrev s__law_kind : Stmt := top 29
theorem sc__law_kind : FnScope ["_law_drawn", "_law_found"] ["_law_drawn"] (defScope s__law_kind) := ⟨rfl, rfl, rfl, by decide +kernel, rfl, by decide +kernel, by decide +kernel⟩
noncomputable abbrev s__law_lowest : Stmt := top 30
theorem sc__law_lowest : FnScope ["_law_top", "_law_bottom", "_law_by"] ["_law_top", "_law_bottom"] (defScope s__law_lowest) := ⟨rfl, rfl, rfl, by decide +kernel, rfl, by decide +kernel, by decide +kernel⟩
noncomputable abbrev s__law_number : Stmt := top 31
theorem sc__law_number : FnScope ["_law_kind_here", "_law_drawn"] ["_law_kind_here", "_law_drawn"] (defScope s__law_number) := ⟨rfl, rfl, rfl, by decide +kernel, rfl, by decide +kernel, by decide +kernel⟩
noncomputable abbrev s__law_times : Stmt := top 32
theorem sc__law_times : FnScope ["_law_kind_here", "_law_one", "_law_other"] ["_law_kind_here", "_law_one", "_law_other"] (defScope s__law_times) := ⟨rfl, rfl, rfl, by decide +kernel, rfl, by decide +kernel, by decide +kernel⟩
noncomputable abbrev s__law_less : Stmt := top 33
theorem sc__law_less : FnScope ["_law_kind_here", "_law_one", "_law_other"] ["_law_kind_here", "_law_one", "_law_other"] (defScope s__law_less) := ⟨rfl, rfl, rfl, by decide +kernel, rfl, by decide +kernel, by decide +kernel⟩
noncomputable abbrev s__law_sum : Stmt := top 34
theorem sc__law_sum : FnScope ["_law_kind_here", "_law_one", "_law_other", "_law_top", "_law_bottom", "_law_x", "_law_y"] ["_law_kind_here", "_law_one", "_law_other"] (defScope s__law_sum) := ⟨rfl, rfl, rfl, by decide +kernel, rfl, by decide +kernel, by decide +kernel⟩
noncomputable abbrev s__law_table : Stmt := top 35
theorem sc__law_table : FnScope ["_law_kind_here", "_law_cell", "_law_size", "_law_found", "_law_i", "_law_by", "_law_other"] ["_law_kind_here", "_law_cell"] (defScope s__law_table) := ⟨rfl, rfl, rfl, by decide +kernel, rfl, by decide +kernel, by decide +kernel⟩
noncomputable abbrev s__law_rank : Stmt := top 36
theorem sc__law_rank : FnScope ["_law_kind_here", "_law_table_here", "_law_rows", "_law_many", "_law_j", "_law_at", "_law_top", "_law_i", "_law_by", "_law_left", "_law_right"] ["_law_kind_here", "_law_table_here"] (defScope s__law_rank) := ⟨rfl, rfl, rfl, by decide +kernel, rfl, by decide +kernel, by decide +kernel⟩
noncomputable abbrev s__law_product : Stmt := top 37
theorem sc__law_product : FnScope ["_law_kind_here", "_law_one", "_law_other", "_law_columns"] ["_law_kind_here", "_law_one", "_law_other"] (defScope s__law_product) := ⟨rfl, rfl, rfl, by decide +kernel, rfl, by decide +kernel, by decide +kernel⟩
noncomputable abbrev s__law_is_table : Stmt := top 38
theorem sc__law_is_table : FnScope ["_law_kind_here", "_law_found", "_law_size", "_law_row", "_law_x"] ["_law_kind_here", "_law_found", "_law_size"] (defScope s__law_is_table) := ⟨rfl, rfl, rfl, by decide +kernel, rfl, by decide +kernel, by decide +kernel⟩
noncomputable abbrev s__law_refused : Stmt := top 39
theorem sc__law_refused : FnScope ["_law_kind_here", "_law_table_here", "_law_error", "e"] ["_law_kind_here", "_law_table_here"] (defScope s__law_refused) := ⟨rfl, rfl, rfl, by decide +kernel, rfl, by decide +kernel, by decide +kernel⟩
noncomputable abbrev s_law : Stmt := top 40
theorem sc_law : FnScope ["_law_script", "_law_cell", "_law_kind_here", "_law_table_here", "_law_size", "_law_found", "_law_one", "_law_ones", "_law_i"] ["_law_script"] (defScope s_law) := ⟨rfl, rfl, rfl, by decide +kernel, rfl, by decide +kernel, by decide +kernel⟩
theorem hide {G : Prop} (h : ∀ G' : Prop, (G → G') → G') : G := h G id
theorem kit_ii (K : PySem.W.Frag) : PySem.W.kitOne K (.type "int") (.type "int") = some true := by unfold PySem.W.kitOne; rw [if_pos (by decide)]
theorem kit_ib (K : PySem.W.Frag) : PySem.W.kitOne K (.type "int") (.type "bool") = some false := by
  unfold PySem.W.kitOne
  rw [if_neg (by decide)]
  show (if PySem.W.kitMeta "bool" = true then PySem.W.subIn K (.type "int") (.type "bool") else none) = some false
  rw [if_pos (by decide +kernel)]
  show (PySem.fastBuiltinMro "int").map (·.contains (Value.type "bool")) = some false
  decide +kernel
theorem kit_tt (K : PySem.W.Frag) : PySem.W.kitOne K (.type "tuple") (.type "tuple") = some true := by unfold PySem.W.kitOne; rw [if_pos (by decide)]
section
variable {P : Program} {w : World} {K : PySem.W.Frag} {mg : Str → Option Value} {base : Heap}
/-! _law_is_prime -/
noncomputable def sp_is_prime : Sp := fun vs H Q _ => ∃ n : Int, vs = [.int n] ∧ 0 ≤ n ∧ n < 99 ∧ Q (.bl (primeB n.toNat)) H
theorem mulok_small {a b : Int} (h0 : 0 ≤ a) (h1 : a ≤ 1000) : IntMulOk a b := IntMulOk.of_left (intBits_le_64 (by (first | lia | omega)) (by (first | lia | omega)))
theorem kn_is_prime (D : Df K mg "_law_is_prime" ["_law_whole_here"] s__law_is_prime) : Kn P w K mg base "_law_is_prime" 1 ["_law_whole_here"] sp_is_prime := by
  refine D.kn sc__law_is_prime (fun vs H Q E h => ?_) (fun f cdv A outer s H vs Q E hr h => ?_)
  · obtain ⟨i, rfl, _⟩ := h; rfl
  refine hide fun _ hG_ => ?_
  obtain ⟨n, rfl, h0, h9, q⟩ := h
  refine hG_ ?_
  clear hG_
  refine ⟨_, (pss_cons (ps_set (i := 1) sc__law_is_prime.nd rfl (by first | exact Or.inl rfl | exact Or.inr rfl) pe_int) (pss_cons (ps_while PassesOwn.never (pt_cmpR op_le (pe_op op_mulB (pv 1) (pv 1)) (pv 0) (nomark _)) (pss_cons (ps_if (pt_cmpR op_eq (pe_op op_modN (pv 0) (pv 1)) pe_int (nomark _)) (pss_one (ps_ret pe_bl)) pss_nil) (pss_one (ps_set (i := 1) sc__law_is_prime.nd rfl (by first | exact Or.inl rfl | exact Or.inr rfl) (pe_op op_add (pv 1) pe_int))))) (pss_one (ps_ret (pe_cmpR op_gt (pv 0) pe_int (nomark _)))))), ?_⟩
  let Wv1_ : Nat → L2.St → Hp → Prop := fun m σ H' => ∃ b, σ = [some (.int n), some (.int b)] ∧ H' = H ∧ PrInv n b ∧ m = (11 - b).toNat
  refine ⟨Wv1_, ⟨_, 2, rfl, rfl, pr_start n, rfl⟩, ?_⟩
  intro m σ H' hI3_
  refine hide fun _ hG_ => ?_
  obtain ⟨b, rfl, rfl, inv, rfl⟩ := hI3_
  refine hG_ ?_
  clear hG_
  have b2 := inv.lo
  have b10 := inv.hi
  refine ⟨_, rfl, _, rfl, _, _, rfl, rfl, mulok_small (by (first | lia | omega)) (by (first | lia | omega)), _, rfl, _, _, rfl, rfl, _, rfl, ?_⟩
  refine ite2 (fun c => ?_) (fun c => ?_)
  · have c' : b * b ≤ n := of_decide_eq_true c
    refine ⟨_, fun _ _ h => h, ?_⟩
    refine ⟨_, rfl, _, rfl, _, _, rfl, rfl, (by (first | lia | omega) : b ≠ 0), rfl, _, rfl, ?_⟩
    have em : n.fmod b = n % b := Int.fmod_eq_emod_of_nonneg n (by (first | lia | omega))
    refine ite2 (fun d => ?_) (fun d => ?_)
    · have d' : V.int (n.fmod b) = V.int 0 := of_decide_eq_true d
      have d2 : n % b = 0 := by rw [← em]; exact V.int.inj d'
      have e := pr_stop inv h0 h9 c' d2
      rw [e] at q
      exact q
    · have d' : ¬ V.int (n.fmod b) = V.int 0 := of_decide_eq_false (Bool.eq_false_iff.mpr d)
      have d2 : n % b ≠ 0 := fun z => d' (by rw [em, z])
      have t := pr_turn inv h0 h9 c' d2
      exact ⟨_, rfl, _, _, rfl, rfl, _, by have := t.hi; (first | lia | omega), b + 1, rfl, rfl, t, rfl⟩
  · have c' : ¬ b * b ≤ n := of_decide_eq_false (Bool.eq_false_iff.mpr c)
    refine ⟨_, rfl, _, _, rfl, rfl, ?_⟩
    show Q (.bl (decide (1 < n))) H'
    rw [pr_end inv h0 h9 (by (first | lia | omega))]
    exact q
/-! _law_kind -/
noncomputable def sp_kind : Sp := fun vs H Q _ => ∃ c : Int, vs = [.int c] ∧ ∀ k, KindOk k → Q (.int k) H
theorem kn_kind (hP : P.given.tree = none) (hS : base.NoSeer) (D : Df K mg "_law_kind" ["_law_drawn"] s__law_kind) (d__law_is_prime : Kn P w K mg base "_law_is_prime" 1 ["_law_whole_here"] sp_is_prime) : Kn P w K mg base "_law_kind" 41 ["_law_drawn"] sp_kind := by
  refine D.kn sc__law_kind (fun vs H Q E h => ?_) (fun f cdv A outer s H vs Q E hr h => ?_)
  · obtain ⟨i, rfl, _⟩ := h; rfl
  refine hide fun _ hG_ => ?_
  obtain ⟨c, rfl, q⟩ := h
  refine hG_ ?_
  clear hG_
  refine ⟨_, (pss_cons (ps_set (i := 1) sc__law_kind.nd rfl (by first | exact Or.inl rfl | exact Or.inr rfl) (pe_op op_modN (pe_op (op_fdivU hr (by decide) hP hS ⟨_, _, rfl, rfl, rfl, rfl, rfl⟩) (pv 0) pe_int) pe_int)) (pss_cons (ps_while PassesOwn.never (PW.pt (pw_and (pt_cmpR op_gt (pv 1) pe_int (nomark _)) (pw_and1 (pt_not (pt_val (pe_kn d__law_is_prime (hr.mono (by decide)) rfl (pa_cons (pv 1) pa_nil))))))) (pss_one (ps_set (i := 1) sc__law_kind.nd rfl (by first | exact Or.inl rfl | exact Or.inr rfl) (pe_op op_sub (pv 1) pe_int)))) (pss_one (ps_ret (pe_op op_mulB (pv 1) (pe_op op_modN (pv 0) pe_int)))))), ?_⟩
  refine ⟨_, rfl, _, _, rfl, rfl, (by show (2 : Int) ≠ 0; decide), _, _, rfl, rfl, (by show (99 : Int) ≠ 0; decide), ?_⟩
  have f0 := Int.fmod_nonneg_of_pos (c.fdiv 2) (show (0 : Int) < 99 by decide)
  have f9 := Int.fmod_lt_of_pos (c.fdiv 2) (show (0 : Int) < 99 by decide)
  let Wv2_ : Nat → L2.St → Hp → Prop := fun m σ H' => ∃ g, σ = [some (.int c), some (.int g)] ∧ H' = H ∧ 0 ≤ g ∧ g < 99 ∧ m = g.toNat
  refine ⟨Wv2_, ⟨_, _, rfl, rfl, f0, f9, rfl⟩, ?_⟩
  intro m σ H' hI3_
  refine hide fun _ hG_ => ?_
  obtain ⟨g, rfl, rfl, g0, g9, rfl⟩ := hI3_
  refine hG_ ?_
  clear hG_
  have ends : ∀ j : Int, (g = 0 ∨ primeB g.toNat = true) → Q (.int (g * c.fmod 2)) H' := fun _ hg => by
    have m0 := Int.fmod_nonneg_of_pos c (show (0 : Int) < 2 by decide)
    have m1 := Int.fmod_lt_of_pos c (show (0 : Int) < 2 by decide)
    rcases hg with hg | hg
    · rw [hg, Int.zero_mul]; exact q 0 (.inl rfl)
    · rcases (show c.fmod 2 = 0 ∨ c.fmod 2 = 1 by (first | lia | omega)) with e | e
      · rw [e, Int.mul_zero]; exact q 0 (.inl rfl)
      · rw [e, Int.mul_one]
        refine q g (.inr ⟨?_, g9, hg⟩)
        rcases (show g = 0 ∨ g = 1 ∨ 1 < g by (first | lia | omega)) with e | e | e
        · rw [e] at hg; exact absurd hg (by decide)
        · rw [e] at hg; exact absurd hg (by decide)
        · exact e
  refine ⟨_, rfl, _, _, rfl, rfl, _, rfl, ?_⟩
  refine ite2 (fun cc => ?_) (fun cc => ?_)
  · have c' : 0 < g := of_decide_eq_true cc
    refine ⟨_, rfl, g, rfl, g0, g9, _, rfl, ?_⟩
    cases hp : primeB g.toNat with
    | false =>
      refine iteT ⟨_, fun _ _ h => h, ?_⟩
      exact ⟨_, rfl, _, _, rfl, rfl, _, by (first | lia | omega), g - 1, rfl, rfl, by (first | lia | omega), by (first | lia | omega), rfl⟩
    | true =>
      refine iteF ?_
      exact ⟨_, rfl, _, rfl, _, _, rfl, rfl, (by show (2 : Int) ≠ 0; decide), _, _, rfl, rfl, mulok_small g0 (by (first | lia | omega)), ends 0 (.inr hp)⟩
  · have c' : ¬ 0 < g := of_decide_eq_false (Bool.eq_false_iff.mpr cc)
    refine iteF ?_
    exact ⟨_, rfl, _, rfl, _, _, rfl, rfl, (by show (2 : Int) ≠ 0; decide), _, _, rfl, rfl, mulok_small g0 (by (first | lia | omega)), ends 0 (.inl (by (first | lia | omega)))⟩
/-! common_divisor, fraction, one_over, number, over -/
/-! common_divisor -/
inductive Sp_cd (vs : List V) (H : Hp) (Q : VK) : Prop where
  | mk (a b : Int) (h0_ : vs = [.int a, .int b]) (h1_ : Q (.int ((Int.gcd a b : Nat) : Int)) H) : Sp_cd  vs H Q
noncomputable def sp_cd : Sp := fun vs H Q _ => Sp_cd  vs H Q
theorem abs_if (i : Int) : (if i < 0 then -i else i) = (i.natAbs : Int) := by split <;> (first | lia | omega)
theorem kn_cd (D : Df K mg "common_divisor" ["one", "other"] s_common_divisor) (m_abs : mg "abs" = none) : Kn P w K mg base "common_divisor" 1 ["one", "other"] sp_cd := by
  refine D.kn sc_common_divisor (fun vs H Q E h => ?_) (fun f cdv A outer s H vs Q E hr h => ?_)
  · obtain ⟨a, b, rfl, _⟩ := h; rfl
  refine hide fun _ hG_ => ?_
  obtain ⟨a, b, rfl, q⟩ := h
  refine hG_ ?_
  clear hG_
  refine ⟨_, (pss_cons (ps_set (i := 2) sc_common_divisor.nd rfl (by first | exact Or.inl rfl | exact Or.inr rfl) (pe_callB call_abs rfl m_abs bb_abs (pa_cons (pv 0) pa_nil))) (pss_cons (ps_set (i := 3) sc_common_divisor.nd rfl (by first | exact Or.inl rfl | exact Or.inr rfl) (pe_callB call_abs rfl m_abs bb_abs (pa_cons (pv 1) pa_nil))) (pss_cons (ps_while PassesOwn.never (pt_cmpR op_ne (pv 3) pe_int (nomark _)) (pss_cons (ps_set (i := 4) sc_common_divisor.nd rfl (by first | exact Or.inl rfl | exact Or.inr rfl) (pe_op op_modN (pv 2) (pv 3))) (pss_cons (ps_set (i := 2) sc_common_divisor.nd rfl (by first | exact Or.inl rfl | exact Or.inr rfl) (pv 3)) (pss_one (ps_set (i := 3) sc_common_divisor.nd rfl (by first | exact Or.inl rfl | exact Or.inr rfl) (pv 4)))))) (pss_one (ps_ret (pv 2)))))), ?_⟩
  refine ⟨_, rfl, a, rfl, _, rfl, b, rfl, ?_⟩
  rw [abs_if, abs_if]
  let Wv3_ : Nat → L2.St → Hp → Prop := fun m σ H' => ∃ l r o, σ = [some (.int a), some (.int b), some (.int l), some (.int r), o] ∧ H' = H ∧ 0 ≤ l ∧ 0 ≤ r ∧ Int.gcd l r = Int.gcd a b ∧ m = r.toNat
  refine ⟨Wv3_, ⟨_, _, _, none, rfl, rfl, Int.natCast_nonneg _, Int.natCast_nonneg _, by simp [Int.gcd_eq_natAbs_gcd_natAbs], rfl⟩, ?_⟩
  intro m σ H' hI3_
  refine hide fun _ hG_ => ?_
  obtain ⟨l, r, o, rfl, rfl, l0, r0, g, rfl⟩ := hI3_
  refine hG_ ?_
  clear hG_
  refine ⟨_, rfl, rfl, _, rfl, ?_⟩
  refine ite2 (fun c => ?_) (fun c => ?_)
  · have c' : r ≠ 0 := fun z => by rw [z] at c; exact absurd c (by decide)
    have m0 := Int.fmod_nonneg_of_pos l (show 0 < r by (first | lia | omega))
    have m1 := Int.fmod_lt_of_pos l (show 0 < r by (first | lia | omega))
    refine ⟨_, fun _ _ h => h, ?_⟩
    exact ⟨_, rfl, _, rfl, _, _, rfl, rfl, c', _, rfl, _, rfl, _, by (first | lia | omega), r, l.fmod r, _, rfl, rfl, r0, m0, (gcd_fmod l r).trans g, rfl⟩
  · have c' : r = 0 := by
      rcases Int.lt_or_le 0 r with h | h
      · exact absurd (by have h' : ¬ V.int r = V.int 0 := fun z => by have := V.int.inj z; (first | lia | omega)
                         rw [decide_eq_false h']; rfl) c
      · (first | lia | omega)
    subst c'
    refine ⟨_, rfl, ?_⟩
    have e : l = ((Int.gcd a b : Nat) : Int) := by rw [← g, Int.gcd_zero]; (first | lia | omega)
    show Q (.int l) H'
    rw [e]; exact q
inductive Sp_fraction (vs : List V) (H : Hp) (Q : VK) : Prop where
  | mk (t b : Int) (h0_ : vs = [.int t, .int b]) (h1_ : b ≠ 0) (h2_ : ∀ v H', Same H H' → RN H' (.q (Rat.divInt t b)) v → Q v H') : Sp_fraction  vs H Q
noncomputable def sp_fraction : Sp := fun vs H Q _ => Sp_fraction  vs H Q
theorem kn_fraction (hP : P.given.tree = none) (hS : base.NoSeer) (D : Df K mg "fraction" ["top", "bottom"] s_fraction) (d_common_divisor : Kn P w K mg base "common_divisor" 1 ["one", "other"] sp_cd) : Kn P w K mg base "fraction" 41 ["top", "bottom"] sp_fraction := by
  refine D.kn sc_fraction (fun vs H Q E h => ?_) (fun f cdv A outer s H vs Q E hr h => ?_)
  · obtain ⟨a, b, rfl, _⟩ := h; rfl
  refine hide fun _ hG_ => ?_
  obtain ⟨t, b, rfl, hb, q⟩ := h
  refine hG_ ?_
  clear hG_
  refine ⟨_, (pss_cons (ps_set (i := 2) sc_fraction.nd rfl (by first | exact Or.inl rfl | exact Or.inr rfl) (pe_kn d_common_divisor (hr.mono (by decide)) rfl (pa_cons (pv 0) (pa_cons (pv 1) pa_nil)))) (pss_cons (ps_if (pt_cmpR op_lt (pv 1) pe_int (nomark _)) (pss_one (ps_set (i := 2) sc_fraction.nd rfl (by first | exact Or.inl rfl | exact Or.inr rfl) (pe_un un_neg (pv 2)))) pss_nil) (pss_one (ps_ret (pe_tup (pa_cons (pe_op (op_fdivU hr (by decide) hP hS ⟨_, _, rfl, rfl, rfl, rfl, rfl⟩) (pv 0) (pv 2)) (pa_cons (pe_op (op_fdivU hr (by decide) hP hS ⟨_, _, rfl, rfl, rfl, rfl, rfl⟩) (pv 1) (pv 2)) pa_nil))))))), ?_⟩
  obtain ⟨e1, e2⟩ := frac_num (t := t) hb
  have cd : sg t b ≠ 0 := sg_ne hb
  have fin : ∀ p, H p = none → Q (.ref p) (upd H p (.tup [.int (t.fdiv (sg t b)), .int (b.fdiv (sg t b))])) := fun p hp => by
    rw [e1, e2]
    exact q _ _ (same_new hp _) (RN.of_q upd_same)
  refine ⟨_, rfl, _, rfl, t, b, rfl, ?_⟩
  refine ⟨_, rfl, _, _, rfl, rfl, _, rfl, ?_⟩
  refine ite2 (fun c => ?_) (fun c => ?_)
  · have c' : b < 0 := of_decide_eq_true c
    have e : sg t b = -((Int.gcd t b : Nat) : Int) := by unfold sg; rw [if_pos c']
    rw [e] at cd fin
    exact ⟨_, rfl, _, rfl, _, rfl, _, rfl, _, _, rfl, rfl, cd, _, rfl, _, rfl, _, _, rfl, rfl, cd, (by show 2 ≤ sizeLine; decide), fin⟩
  · have c' : ¬ b < 0 := of_decide_eq_false (Bool.eq_false_iff.mpr c)
    have e : sg t b = ((Int.gcd t b : Nat) : Int) := by unfold sg; rw [if_neg c']
    rw [e] at cd fin
    exact ⟨_, rfl, _, rfl, _, _, rfl, rfl, cd, _, rfl, _, rfl, _, _, rfl, rfl, cd, (by show 2 ≤ sizeLine; decide), fin⟩
inductive Sp_one_over (vs : List V) (H : Hp) (Q : VK) : Prop where
  | mk (p r : Int) (h0_ : vs = [.int p, .int r]) (h1_ : Pr p) (h2_ : 0 < r) (h3_ : r < p) (h4_ : ∀ x, 0 ≤ x → x < p → p ∣ x * r - 1 → Q (.int x) H) : Sp_one_over  vs H Q
noncomputable def sp_one_over : Sp := fun vs H Q _ => Sp_one_over  vs H Q
theorem kn_one_over (hP : P.given.tree = none) (hS : base.NoSeer) (D : Df K mg "one_over" ["prime", "rest"] s_one_over) : Kn P w K mg base "one_over" 41 ["prime", "rest"] sp_one_over := by
  refine D.kn sc_one_over (fun vs H Q E h => ?_) (fun f cdv A outer s H vs Q E hr h => ?_)
  · obtain ⟨a, b, rfl, _⟩ := h; rfl
  refine hide fun _ hG_ => ?_
  obtain ⟨p, r, rfl, hp, r0, rp, q⟩ := h
  refine hG_ ?_
  clear hG_
  refine ⟨_, (pss_cons (ps_set (i := 2) sc_one_over.nd rfl (by first | exact Or.inl rfl | exact Or.inr rfl) (pv 0)) (pss_cons (ps_set (i := 3) sc_one_over.nd rfl (by first | exact Or.inl rfl | exact Or.inr rfl) (pv 1)) (pss_cons (ps_set (i := 4) sc_one_over.nd rfl (by first | exact Or.inl rfl | exact Or.inr rfl) pe_int) (pss_cons (ps_set (i := 5) sc_one_over.nd rfl (by first | exact Or.inl rfl | exact Or.inr rfl) pe_int) (pss_cons (ps_while PassesOwn.never (pt_cmpR op_ne (pv 3) pe_int (nomark _)) (pss_cons (ps_set (i := 6) sc_one_over.nd rfl (by first | exact Or.inl rfl | exact Or.inr rfl) (pe_op (op_fdivU hr (by decide) hP hS ⟨_, _, rfl, rfl, rfl, rfl, rfl⟩) (pv 2) (pv 3))) (pss_cons (ps_set (i := 7) sc_one_over.nd rfl (by first | exact Or.inl rfl | exact Or.inr rfl) (pe_op op_sub (pv 2) (pe_op op_mulB (pv 6) (pv 3)))) (pss_cons (ps_set (i := 8) sc_one_over.nd rfl (by first | exact Or.inl rfl | exact Or.inr rfl) (pe_op op_sub (pv 4) (pe_op op_mulB (pv 6) (pv 5)))) (pss_cons (ps_set (i := 2) sc_one_over.nd rfl (by first | exact Or.inl rfl | exact Or.inr rfl) (pv 3)) (pss_cons (ps_set (i := 4) sc_one_over.nd rfl (by first | exact Or.inl rfl | exact Or.inr rfl) (pv 5)) (pss_cons (ps_set (i := 3) sc_one_over.nd rfl (by first | exact Or.inl rfl | exact Or.inr rfl) (pv 7)) (pss_one (ps_set (i := 5) sc_one_over.nd rfl (by first | exact Or.inl rfl | exact Or.inr rfl) (pv 8)))))))))) (pss_one (ps_ret (pe_op op_modN (pv 4) (pv 0))))))))), ?_⟩
  have p0 : 0 < p := by have := hp.lo; (first | lia | omega)
  refine ⟨_, rfl, _, rfl, ?_⟩
  let Wv4_ : Nat → L2.St → Hp → Prop := fun m σ H' => ∃ l g ml mg o1 o2 o3, σ = [some (.int p), some (.int r), some (.int l), some (.int g), some (.int ml), some (.int mg), o1, o2, o3] ∧ H' = H ∧ OvInv p r l g ml mg ∧ m = g.toNat
  refine ⟨Wv4_, ⟨_, _, _, _, _, none, none, none, rfl, rfl, ov_start hp r0 rp, rfl⟩, ?_⟩
  intro m σ H' hI3_
  refine hide fun _ hG_ => ?_
  obtain ⟨l, g, ml, mg, o1, o2, o3, rfl, rfl, inv, rfl⟩ := hI3_
  refine hG_ ?_
  clear hG_
  have l0 := inv.l0
  have l1 := inv.l1
  have g0 := inv.g0
  have g1 := inv.g1
  refine ⟨_, rfl, rfl, _, rfl, ?_⟩
  refine ite2 (fun c => ?_) (fun c => ?_)
  · have c' : g ≠ 0 := fun z => by rw [z] at c; exact absurd c (by decide)
    have ed : l.fdiv g = l / g := Int.fdiv_eq_ediv_of_nonneg l g0
    have d0 : 0 ≤ l.fdiv g := by rw [ed]; exact Int.ediv_nonneg l0 g0
    have d1 : l.fdiv g ≤ l := by rw [ed]; exact Int.ediv_le_self g l0
    have tn := ov_turn inv c'
    have tm := ov_meas (l := l) g0 c'
    rw [← ed] at tn tm
    refine ⟨_, fun _ _ h => h, ?_⟩
    refine ⟨_, rfl, _, rfl, _, _, rfl, rfl, c', ?_⟩
    refine ⟨_, rfl, _, rfl, _, rfl, _, _, rfl, rfl, mulok_small d0 (by (first | lia | omega)), _, _, rfl, rfl, _, rfl, _, rfl, _, rfl, _, _, rfl, rfl, mulok_small d0 (by (first | lia | omega)), _, _, rfl, rfl, _, rfl, _, rfl, _, rfl, _, rfl, _, tm, g, _, mg, _, _, _, _, rfl, rfl, tn, rfl⟩
  · have c' : g = 0 := by
      rcases Int.lt_or_le 0 g with h | h
      · exact absurd (by have h' : ¬ V.int g = V.int 0 := fun z => by have := V.int.inj z; (first | lia | omega)
                         rw [decide_eq_false h']; rfl) c
      · (first | lia | omega)
    subst c'
    refine ⟨_, rfl, _, rfl, _, _, rfl, rfl, (show p ≠ 0 by (first | lia | omega)), ?_⟩
    have em : ml.fmod p = ml % p := Int.fmod_eq_emod_of_nonneg ml (by (first | lia | omega))
    show Q (.int (ml.fmod p)) H'
    rw [em]
    exact q _ (Int.emod_nonneg _ (by (first | lia | omega))) (Int.emod_lt_of_pos _ p0) (ov_end inv p0)
/-! number -/
inductive Sp_number (vs : List V) (H : Hp) (Q : VK) : Prop where
  | mk (k w : Int) (h0_ : vs = [.int k, .int w]) (h1_ : ∀ v H', Same H H' → RN H' (nnum k w) v → Q v H') : Sp_number  vs H Q
noncomputable def sp_number : Sp := fun vs H Q _ => Sp_number  vs H Q
theorem kn_number (D : Df K mg "number" ["kind", "whole"] s_number) : Kn P w K mg base "number" 1 ["kind", "whole"] sp_number := by
  refine D.kn sc_number (fun vs H Q E h => ?_) (fun f cdv A outer s H vs Q E hr h => ?_)
  · obtain ⟨k, w, rfl, _⟩ := h; rfl
  refine hide fun _ hG_ => ?_
  obtain ⟨k, w, rfl, q⟩ := h
  refine hG_ ?_
  clear hG_
  refine ⟨_, (pss_cons (ps_if (pt_cmpR op_eq (pv 0) pe_int (nomark _)) (pss_one (ps_ret (pe_tup (pa_cons (pv 1) (pa_cons pe_int pa_nil))))) pss_nil) (pss_one (ps_ret (pe_op op_modN (pv 1) (pv 0))))), ?_⟩
  refine ⟨_, rfl, rfl, _, rfl, ?_⟩
  refine ite2 (fun c => ?_) (fun c => ?_)
  · have e : k = 0 := V.int.inj (of_decide_eq_true c)
    subst e
    refine ⟨_, rfl, (by show 2 ≤ sizeLine; decide), fun p hp => ?_⟩
    refine q _ _ (same_new hp _) ?_
    show RN _ (.q (w : Rat)) _
    exact RN.of_q upd_same
  · have c' : ¬ V.int k = V.int 0 := of_decide_eq_false (Bool.eq_false_iff.mpr c)
    have e : k ≠ 0 := fun z => c' (by rw [z])
    refine ⟨_, rfl, _, rfl, _, _, rfl, rfl, e, ?_⟩
    refine q _ _ (Same.refl H) ?_
    unfold nnum
    rw [if_neg e]
    exact RN.of_z
/-- two numbers of a kind -/
structure Two (H : Hp) (k : Int) (x y : Nb) (a b : V) : Prop where
  kd : KindOk k
  xo : x.ok k
  yo : y.ok k
  xs : nsm 60000000 x
  ys : nsm 60000000 y
  xr : RN H x a
  yr : RN H y b
inductive Sp_bin (f : Int → Nb → Nb → Nb) (vs : List V) (H : Hp) (Q : VK) : Prop where
  | mk (k : Int) (x y : Nb) (a b : V) (h0_ : vs = [.int k, a, b]) (h1_ : Two H k x y a b) (h2_ : ∀ v H', Same H H' → RN H' (f k x y) v → Q v H') : Sp_bin f vs H Q
noncomputable def sp_bin (f : Int → Nb → Nb → Nb) : Sp := fun vs H Q _ => Sp_bin f vs H Q
/-- both are fractions, or both are rests -/
theorem two_cases {H : Hp} {k : Int} {x y : Nb} {a b : V} (T : Two H k x y a b) :
    (k = 0 ∧ ∃ r s pa pb, x = .q r ∧ y = .q s ∧ a = .ref pa ∧ b = .ref pb ∧ H pa = some (.tup [.int r.num, .int (r.den : Int)]) ∧ H pb = some (.tup [.int s.num, .int (s.den : Int)]) ∧ Sm 60000000 r.num ∧ Sm 60000000 (r.den : Int) ∧ Sm 60000000 s.num ∧ Sm 60000000 (s.den : Int)) ∨
    (k ≠ 0 ∧ Pr k ∧ ∃ i j, x = .z i ∧ y = .z j ∧ a = .int i ∧ b = .int j ∧ 0 ≤ i ∧ i < k ∧ 0 ≤ j ∧ j < k) := by
  obtain ⟨kd, xo, yo, xs, ys, xr, yr⟩ := T
  cases x with
  | q r =>
    have k0 : k = 0 := xo
    cases y with
    | q s =>
      obtain ⟨pa, ea, ha⟩ := xr.q
      obtain ⟨pb, eb, hb⟩ := yr.q
      exact .inl ⟨k0, r, s, pa, pb, rfl, rfl, ea, eb, ha, hb, xs.1, xs.2, ys.1, ys.2⟩
    | z j => exact absurd k0 yo.1
  | z i =>
    cases y with
    | q s => exact absurd (show k = 0 from yo) xo.1
    | z j =>
      refine .inr ⟨xo.1, ?_, i, j, rfl, rfl, xr.z, yr.z, xo.2.1, xo.2.2, yo.2.1, yo.2.2⟩
      rcases kd with h | h
      · exact absurd h xo.1
      · exact h
theorem mulok_sm {m n : Nat} {a b : Int} (ha : Sm m a) (hb : Sm n b) (h : m + n ≤ 134217728 := by decide) : IntMulOk a b := ha.mulOk hb h
inductive Sp_over (vs : List V) (H : Hp) (Q : VK) : Prop where
  | mk (k : Int) (x y : Nb) (a b : V) (h0_ : vs = [.int k, a, b]) (h1_ : Two H k x y a b) (h2_ : y ≠ nnum k 0) (h3_ : ∀ v H', Same H H' → RN H' (ndiv k x y) v → Q v H') : Sp_over  vs H Q
noncomputable def sp_over : Sp := fun vs H Q _ => Sp_over  vs H Q
theorem kn_over (D : Df K mg "over" ["kind", "one", "other"] s_over) (d_fraction : Kn P w K mg base "fraction" 41 ["top", "bottom"] sp_fraction) (d_number : Kn P w K mg base "number" 1 ["kind", "whole"] sp_number) (d_one_over : Kn P w K mg base "one_over" 41 ["prime", "rest"] sp_one_over) : Kn P w K mg base "over" 42 ["kind", "one", "other"] sp_over := by
  refine D.kn sc_over (fun vs H Q E h => ?_) (fun f cdv A outer s H vs Q E hr h => ?_)
  · obtain ⟨k, x, y, a, b, rfl, _⟩ := h; rfl
  refine hide fun _ hG_ => ?_
  obtain ⟨k, x, y, a, b, rfl, T, ne, q⟩ := h
  refine hG_ ?_
  clear hG_
  refine ⟨_, (pss_cons (ps_if (pt_cmpR (op_eqD hr) (pv 2) (pe_kn d_number (hr.mono (by decide)) rfl (pa_cons (pv 0) (pa_cons pe_int pa_nil))) (nomark _)) (pss_one ps_never) pss_nil) (pss_cons (ps_if (pt_cmpR op_eq (pv 0) pe_int (nomark _)) (pss_one (ps_ret (pe_kn d_fraction (hr.mono (by decide)) rfl (pa_cons (pe_op op_mulB (pe_ix ix_tup0 (pv 1) pe_int (fun _ _ => rfl)) (pe_ix ix_tup0 (pv 2) pe_int (fun _ _ => rfl))) (pa_cons (pe_op op_mulB (pe_ix ix_tup0 (pv 1) pe_int (fun _ _ => rfl)) (pe_ix ix_tup0 (pv 2) pe_int (fun _ _ => rfl))) pa_nil))))) pss_nil) (pss_one (ps_ret (pe_op op_modN (pe_op op_mulB (pv 1) (pe_kn d_one_over (hr.mono (by decide)) rfl (pa_cons (pv 0) (pa_cons (pv 2) pa_nil)))) (pv 0)))))), ?_⟩
  refine ⟨_, rfl, _, rfl, k, 0, rfl, fun v0 H0 g0 r0 => ?_⟩
  refine ⟨toD y, toD (nnum k 0), T.yr.mono g0, r0, toD_lay _, toD_lay _, Nat.le_trans (Nat.min_le_left _ _) (Nat.le_trans (toD_depth y) (by decide)), _, rfl, ?_⟩
  show if PyData.eqv (toD y) (toD (nnum k 0)) = true then _ else _
  rw [toD_eqv, decide_eq_false ne]
  refine iteF ?_
  rcases two_cases T with ⟨rfl, r, s, pa, pb, rfl, rfl, rfl, rfl, ha, hb, rn, rd, sn, sd⟩ | ⟨k0, hp, i, j, rfl, rfl, rfl, rfl, i0, ik, j0, jk⟩
  · have ha' := g0 _ _ ha
    have hb' := g0 _ _ hb
    have s0 : s ≠ 0 := fun z => ne (by rw [z]; rfl)
    refine ⟨_, rfl, rfl, _, rfl, iteT ?_⟩
    refine ⟨_, rfl, pa, _, _, _, rfl, rfl, SqT.of ha', rfl, _, rfl, pb, _, _, _, rfl, rfl, SqT.of hb', rfl, _, _, rfl, rfl, mulok_sm rn sd, _, rfl, pa, _, _, _, rfl, rfl, SqT.of ha', rfl, _, rfl, pb, _, _, _, rfl, rfl, SqT.of hb', rfl, _, _, rfl, rfl, mulok_sm rd sn, _, _, rfl, Int.mul_ne_zero (den_ne r) (num_ne s0), fun v H' g h => ?_⟩
    rw [rat_div] at h
    exact q v H' (g0.trans g) h
  · have j1 : j ≠ 0 := fun z => ne (by unfold nnum; rw [if_neg k0, z, Int.zero_fmod])
    refine ⟨_, rfl, rfl, _, rfl, ?_⟩
    rw [decide_eq_false (show ¬ V.int k = V.int 0 from fun z => k0 (V.int.inj z))]
    refine iteF ?_
    refine ⟨_, rfl, _, rfl, _, rfl, k, j, rfl, hp, by (first | lia | omega), jk, fun x x0 xk hx => ?_⟩
    refine ⟨_, _, rfl, rfl, mulok_small i0 (by have := hp.hi; (first | lia | omega)), _, rfl, _, _, rfl, rfl, k0, ?_⟩
    refine q _ _ g0 ?_
    show RN _ (.z ((i * zinv k j).fmod k)) _
    rw [zinv_of x0 xk hx]
    exact RN.of_z
/-! _law_divisor -/
theorem kn_div (D : Df K mg "_law_divisor" ["_law_one", "_law_other"] s__law_divisor) (m_abs : mg "abs" = none) : Kn P w K mg base "_law_divisor" 1 ["_law_one", "_law_other"] sp_cd := by
  refine D.kn sc__law_divisor (fun vs H Q E h => ?_) (fun f cdv A outer s H vs Q E hr h => ?_)
  · obtain ⟨a, b, rfl, _⟩ := h; rfl
  refine hide fun _ hG_ => ?_
  obtain ⟨a, b, rfl, q⟩ := h
  refine hG_ ?_
  clear hG_
  refine ⟨_, (pss_cons (ps_while PassesOwn.never (pt_cmpR op_ne (pv 1) pe_int (nomark _)) (pss_one (ps_par (i := 0) (j := 1) rfl sc__law_divisor.nd rfl rfl (by decide) rfl rfl (pa_cons (pv 1) (pa_cons (pe_op op_modN (pv 0) (pv 1)) pa_nil)) rfl))) (pss_one (ps_ret (pe_callB call_abs rfl m_abs bb_abs (pa_cons (pv 0) pa_nil))))), ?_⟩
  let Wv5_ : Nat → L2.St → Hp → Prop := fun m σ H' => ∃ l r, σ = [some (.int l), some (.int r)] ∧ H' = H ∧ Int.gcd l r = Int.gcd a b ∧ m = r.natAbs
  refine ⟨Wv5_, ⟨_, _, _, rfl, rfl, rfl, rfl⟩, ?_⟩
  intro m σ H' hI3_
  refine hide fun _ hG_ => ?_
  obtain ⟨l, r, rfl, rfl, g, rfl⟩ := hI3_
  refine hG_ ?_
  clear hG_
  refine ⟨_, rfl, rfl, _, rfl, ?_⟩
  refine ite2 (fun c => ?_) (fun c => ?_)
  · have c' : r ≠ 0 := fun z => by rw [z] at c; exact absurd c (by decide)
    refine ⟨_, fun _ _ h => h, ?_⟩
    exact ⟨_, rfl, _, rfl, _, rfl, _, _, rfl, rfl, c', _, _, rfl, _, fmod_small l c', r, l.fmod r, rfl, rfl, (gcd_fmod l r).trans g, rfl⟩
  · have c' : r = 0 := by
      by_cases h : r = 0
      · exact h
      · exact absurd (by have h' : ¬ V.int r = V.int 0 := fun z => h (V.int.inj z)
                         rw [decide_eq_false h']; rfl) c
    subst c'
    refine ⟨_, rfl, l, rfl, ?_⟩
    have e : (if l < 0 then -l else l) = ((Int.gcd a b : Nat) : Int) := by rw [abs_if, ← g, Int.gcd_zero]
    show Q (.int (if l < 0 then -l else l)) H'
    rw [e]; exact q
noncomputable def szM (m : Nat) (M : List (List Nb)) : Prop := ∀ r ∈ M, ∀ x ∈ r, nsm m x
/-! scaled -/
inductive Sp_scaled (vs : List V) (H : Hp) (Q : VK) : Prop where
  | mk (k : Int) (xs : List Nb) (a : Addr) (m : Nat) (h0_ : vs = [.int k, .ref a]) (h1_ : KindOk k) (h2_ : RowAt H xs a) (h3_ : La.OkR k xs) (h4_ : (∀ x ∈ xs, nsm m x)) (h5_ : 7 ≤ m) (h6_ : (xs.length + 2) * m ≤ 60000000) (h7_ : ∀ p H', Same H H' → SclAt H' k ((xs.length + 2) * m) xs p → Q (.ref p) H') : Sp_scaled  vs H Q
noncomputable def sp_scaled : Sp := fun vs H Q _ => Sp_scaled  vs H Q
theorem len_ok {n m : Nat} (h7 : 7 ≤ m) (h : (n + 2) * m ≤ 60000000) : n < sizeLine := by
  have h1 : (n + 2) * 7 ≤ (n + 2) * m := Nat.mul_le_mul_left _ h7
  have : sizeLine = 16777216 := by decide
  (first | lia | omega)
theorem kn_scaled (hP : P.given.tree = none) (hS : base.NoSeer) (D : Df K mg "scaled" ["kind", "row"] s_scaled) (d_common_divisor : Kn P w K mg base "common_divisor" 1 ["one", "other"] sp_cd) (m_list : mg "list" = none) : Kn P w K mg base "scaled" 41 ["kind", "row"] sp_scaled := by
  refine D.kn sc_scaled (fun vs H Q E h => ?_) (fun f cdv A outer s H vs Q E hr h => ?_)
  · obtain ⟨k, xs, a, m, rfl, _⟩ := h; rfl
  refine hide fun _ hG_ => ?_
  obtain ⟨k, xs, a, m, rfl, hk, hrow, ok, sm, m7, hsz, q⟩ := h
  refine hG_ ?_
  clear hG_
  have kl := hk.lt
  have hlen := len_ok m7 hsz
  refine hide fun _ hG_ => ?_
  obtain ⟨vs, ha, hp, hvl⟩ := hrow.len
  refine hG_ ?_
  clear hG_
  refine ⟨_, (pss_cons (ps_if (pt_cmpR op_ne (pv 0) pe_int (nomark _)) (pss_one (ps_ret (pe_tup (pa_cons (pe_callTy call_list0 rfl m_list bb_list (pa_cons (pv 1) pa_nil)) (pa_cons pe_int pa_nil))))) pss_nil) (pss_cons (ps_set (i := 2) sc_scaled.nd rfl (by first | exact Or.inl rfl | exact Or.inr rfl) pe_int) (pss_cons (ps_for PassesOwn.never rfl (pi_list0 (pv 1)) (pg_name (i := 3) sc_scaled.nd rfl (by first | exact Or.inl rfl | exact Or.inr rfl)) (pss_one (ps_set (i := 2) sc_scaled.nd rfl (by first | exact Or.inl rfl | exact Or.inr rfl) (pe_op op_mulB (pe_op (op_fdivU hr (by decide) hP hS ⟨_, _, rfl, rfl, rfl, rfl, rfl⟩) (pv 2) (pe_kn d_common_divisor (hr.mono (by decide)) rfl (pa_cons (pv 2) (pa_cons (pe_ix ix_tup0 (pv 3) pe_int (fun _ _ => rfl)) pa_nil)))) (pe_ix ix_tup0 (pv 3) pe_int (fun _ _ => rfl)))))) (pss_one (ps_ret (pe_tup (pa_cons (pe_comp ["part"] ["bottom"] [2] ⟨rfl, rfl, rfl, rfl, rfl, rfl, by decide +kernel⟩ rfl (pi_list0 (pv 1)) (gown_name (by decide)) fun _ _ _ _ _ _ => ⟨(pg_name (i := 0) (by decide : (["part", "bottom"] : List Str).Nodup) rfl (by first | exact Or.inl rfl | exact Or.inr rfl)), pts_nil, (pe_op op_mulB (pe_ix ix_tup0 (pv 0) pe_int (fun _ _ => rfl)) (pe_op (op_fdivU hr (by decide) hP hS ⟨_, _, rfl, rfl, rfl, rfl, rfl⟩) (pv 1) (pe_ix ix_tup0 (pv 0) pe_int (fun _ _ => rfl))))⟩) (pa_cons (pv 2) pa_nil)))))))), ?_⟩
  refine ⟨_, rfl, rfl, _, rfl, ?_⟩
  have m1 : m ≤ (xs.length + 2) * m := Nat.le_mul_of_pos_left _ (by (first | lia | omega))
  refine ite2 (fun c => ?_) (fun c => ?_)
  · have k0 : k ≠ 0 := fun z => by rw [z] at c; exact absurd c (by decide)
    refine hide fun _ hG_ => ?_
    obtain ⟨is, rfl, rfl⟩ := row_rests k0 ok hp
    refine hG_ ?_
    clear hG_
    refine ⟨_, rfl, a, _, rfl, .inl (SqL.of ha), fun l hl => ⟨(by show 2 ≤ sizeLine; decide), fun p hp' => ?_⟩⟩
    have n1 : l ≠ p := fun e => by rw [e, upd_same] at hp'; cases hp'
    refine q p _ ((same_new hl _).trans (same_new hp' _)) ⟨l, is, 1, upd_same, ?_, scl_rests k0 is, ?_, fun w hw => ?_⟩
    · show upd _ _ _ l = _
      rw [upd_ne n1]; exact upd_same
    · exact sm_one.mono (by (first | lia | omega))
    · have h := sm (.z w) (List.mem_map.mpr ⟨w, hw, rfl⟩)
      exact Sm.mono (show Sm m w from h) m1
  · have k0 : k = 0 := by
      by_cases z : k = 0
      · exact z
      · exact absurd (by have h' : ¬ V.int k = V.int 0 := fun e => z (V.int.inj e)
                         rw [decide_eq_false h']; rfl) c
    subst k0
    have isq : ∀ (i : Nat) (x : Nb), xs[i]? = some x → ∃ r, x = .q r := fun i x hx => by
      have o := ok x (List.mem_of_getElem? hx)
      cases x with
      | q r => exact ⟨r, rfl⟩
      | z j => exact absurd rfl o.1
    refine ⟨_, rfl, a, rfl, ⟨_, SqL.of ha⟩, ?_⟩
    let Pv6_ : Nat → L2.St → Hp → Prop := fun i σ H' => ∃ b o, σ = [some (.int 0), some (.ref a), some (.int b), o] ∧ H' = H ∧ 0 < b ∧ (∀ x ∈ xs.take i, La.dvB b x) ∧ Sm (1 + i * m) b
    refine for_list (xs := vs) Pv6_ ⟨1, none, rfl, rfl, by decide, fun x hx => by simp at hx, sm_one.mono (by (first | lia | omega))⟩ ?_ ?_ ?_
    · intro i σ H' _ hI4_
      refine hide fun _ hG_ => ?_
      obtain ⟨b, o, rfl, rfl, _⟩ := hI4_
      refine hG_ ?_
      clear hG_
      exact SqL.of ha
    · intro i v σ H' hv hI5_
      refine hide fun _ hG_ => ?_
      obtain ⟨b, o, rfl, rfl, b0, dv, sb⟩ := hI5_
      refine hG_ ?_
      clear hG_
      refine hide fun _ hG_ => ?_
      obtain ⟨x, hx, rx⟩ := pd_right hp hv
      refine hG_ ?_
      clear hG_
      obtain ⟨r, rfl⟩ := isq i x hx
      refine hide fun _ hG_ => ?_
      obtain ⟨pa, rfl, hpa⟩ := rx.q
      refine hG_ ?_
      clear hG_
      have sx := sm _ (List.mem_of_getElem? hx)
      have il : i < xs.length := (List.getElem?_eq_some_iff.mp hx).1
      refine hide fun _ hG_ => ?_
      obtain ⟨l1, l2, l3, l4⟩ := lcm_step b0 (den_pos r)
      refine hG_ ?_
      clear hG_
      have sf : Sm (1 + i * m) (b.fdiv ((Int.gcd b (r.den : Int) : Nat) : Int)) := sm_fdiv sb (Int.gcd_dvd_left _ _)
      have im : (i + 2) * m ≤ (xs.length + 2) * m := Nat.mul_le_mul_right _ (by (first | lia | omega))
      have im2 : (i + 2) * m = i * m + 2 * m := Nat.add_mul _ _ _
      refine ⟨_, rfl, _, rfl, _, rfl, pa, _, _, _, rfl, rfl, SqT.of hpa, rfl, _, _, rfl, _, _, rfl, rfl, l4, ?_⟩
      refine ⟨_, rfl, pa, _, _, _, rfl, rfl, SqT.of hpa, rfl, _, _, rfl, rfl, sf.mulOk sx.2 (by (first | lia | omega)), ?_⟩
      refine ⟨_, _, rfl, rfl, l1, fun y hy => ?_, ?_⟩
      · rw [take_snoc hx] at hy
        rcases List.mem_append.mp hy with hy | hy
        · have := dv y hy
          cases y with
          | q s => exact Int.dvd_trans (show (s.den : Int) ∣ b from this) l2
          | z j => trivial
        · rw [List.mem_singleton.mp hy]; exact l3
      · refine (sf.mul sx.2).mono ?_
        rw [Nat.add_mul]; (first | lia | omega)
    · intro σ H' hI2_
      refine hide fun _ hG_ => ?_
      obtain ⟨b, o, rfl, rfl, b0, dv, sb⟩ := hI2_
      refine hG_ ?_
      clear hG_
      rw [hvl] at dv sb
      rw [List.take_length] at dv
      have e2 : (xs.length + 2) * m = xs.length * m + 2 * m := Nat.add_mul _ _ _
      refine ⟨_, rfl, a, rfl, ⟨_, SqL.of ha⟩, ?_⟩
      let Pv7_ : Nat → List V → Hp → Prop := fun i ys H2 => H2 = H' ∧ ys = ((xs.take i).map (La.scW b)).map V.int
      refine comp_list (xs := vs) Pv7_ ⟨rfl, by simp⟩ ?_ ?_ ?_
      · rintro i ys H2 hi ⟨rfl, rfl⟩
        refine ⟨SqL.of ha, ?_⟩
        rw [List.length_map, List.length_map, List.length_take]
        (first | lia | omega)
      · rintro i v ys H2 hv hi ⟨rfl, rfl⟩
        refine hide fun _ hG_ => ?_
        obtain ⟨x, hx, rx⟩ := pd_right hp hv
        refine hG_ ?_
        clear hG_
        obtain ⟨r, rfl⟩ := isq i x hx
        refine hide fun _ hG_ => ?_
        obtain ⟨pa, rfl, hpa⟩ := rx.q
        refine hG_ ?_
        clear hG_
        have sx := sm _ (List.mem_of_getElem? hx)
        have dx : (r.den : Int) ∣ b := dv _ (List.mem_of_getElem? hx)
        first | refine gyes ?_ | refine tyes ?_
        refine ⟨_, rfl, pa, _, _, _, rfl, rfl, SqT.of hpa, rfl, _, rfl, _, rfl, pa, _, _, _, rfl, rfl, SqT.of hpa, rfl, _, _, rfl, rfl, den_ne r, _, _, rfl, rfl, sx.1.mulOk (sm_fdiv sb dx) (by (first | lia | omega)), nxt hi ⟨rfl, ?_⟩⟩
        rw [take_snoc hx, List.map_append, List.map_append]; rfl
      · rintro ys H2 ⟨rfl, rfl⟩ l hl
        rw [hvl, List.take_length] at *
        refine ⟨_, rfl, (by show 2 ≤ sizeLine; decide), fun p hp' => ?_⟩
        have n1 : l ≠ p := fun e => by rw [e, upd_same] at hp'; cases hp'
        refine q p _ ((same_new hl _).trans (same_new hp' _)) ⟨l, xs.map (La.scW b), b, upd_same, ?_, ⟨rfl, b0, fun z => absurd rfl z, dv⟩, sb.mono (by (first | lia | omega)), fun w hw => ?_⟩
        · show upd _ _ _ l = _
          rw [upd_ne n1]; exact upd_same
        · refine hide fun _ hG_ => ?_
          obtain ⟨x, hx, rfl⟩ := List.mem_map.mp hw
          refine hG_ ?_
          clear hG_
          refine hide fun _ hG_ => ?_
          obtain ⟨i, hi, e⟩ := List.getElem_of_mem hx
          refine hG_ ?_
          clear hG_
          obtain ⟨r, rfl⟩ := isq i x (by rw [List.getElem?_eq_getElem hi, e])
          have sx := sm _ hx
          exact (sx.1.mul (sm_fdiv sb (dv _ hx))).mono (by (first | lia | omega))
/-! quotient -/
inductive Sp_quot (vs : List V) (H : Hp) (Q : VK) : Prop where
  | mk (k t b : Int) (h0_ : vs = [.int k, .int t, .int b]) (h1_ : KindOk k) (h2_ : nnum k b ≠ nnum k 0) (h3_ : Sm 60000000 t) (h4_ : Sm 60000000 b) (h5_ : ∀ v H', Same H H' → RN H' (ndiv k (nnum k t) (nnum k b)) v → Q v H') : Sp_quot  vs H Q
noncomputable def sp_quot : Sp := fun vs H Q _ => Sp_quot  vs H Q
theorem kn_quot (D : Df K mg "quotient" ["kind", "top", "bottom"] s_quotient) (d_over : Kn P w K mg base "over" 42 ["kind", "one", "other"] sp_over) (d_number : Kn P w K mg base "number" 1 ["kind", "whole"] sp_number) : Kn P w K mg base "quotient" 43 ["kind", "top", "bottom"] sp_quot := by
  refine D.kn sc_quotient (fun vs H Q E h => ?_) (fun f cdv A outer s H vs Q E hr h => ?_)
  · obtain ⟨k, t, b, rfl, _⟩ := h; rfl
  refine hide fun _ hG_ => ?_
  obtain ⟨k, t, b, rfl, hk, ne, st, sb, q⟩ := h
  refine hG_ ?_
  clear hG_
  refine ⟨_, (pss_one (ps_ret (pe_kn d_over (hr.mono (by decide)) rfl (pa_cons (pv 0) (pa_cons (pe_kn d_number (hr.mono (by decide)) rfl (pa_cons (pv 0) (pa_cons (pv 1) pa_nil))) (pa_cons (pe_kn d_number (hr.mono (by decide)) rfl (pa_cons (pv 0) (pa_cons (pv 2) pa_nil))) pa_nil)))))), ?_⟩
  refine ⟨_, rfl, _, rfl, _, rfl, k, t, rfl, fun v1 H1 g1 r1 => ?_⟩
  refine ⟨_, rfl, _, rfl, k, b, rfl, fun v2 H2 g2 r2 => ?_⟩
  refine ⟨k, _, _, v1, v2, rfl, ⟨hk, La.nnum_ok hk t, La.nnum_ok hk b, nsm_num hk st (by decide), nsm_num hk sb (by decide), r1.mono g2, r2⟩, ne, fun v3 H3 g3 r3 => ?_⟩
  exact q v3 H3 ((g1.trans g2).trans g3) r3
--SPLIT
/-! eased -/
inductive Sp_eased (vs : List V) (H : Hp) (Q : VK) : Prop where
  | mk (k : Int) (ws : List Int) (a : Addr) (h0_ : vs = [.int k, .ref a]) (h1_ : KindOk k) (h2_ : IRow H ws a) (h3_ : ws.length < sizeLine) (h4_ : ∀ p H', Same H H' → IRow H' (La.easedM k ws) p → Q (.ref p) H') : Sp_eased  vs H Q
noncomputable def sp_eased : Sp := fun vs H Q _ => Sp_eased  vs H Q
theorem kn_eased (hP : P.given.tree = none) (hS : base.NoSeer) (D : Df K mg "eased" ["kind", "wholes"] s_eased) (d_common_divisor : Kn P w K mg base "common_divisor" 1 ["one", "other"] sp_cd) : Kn P w K mg base "eased" 41 ["kind", "wholes"] sp_eased := by
  refine D.kn sc_eased (fun vs H Q E h => ?_) (fun f cdv A outer s H vs Q E hr h => ?_)
  · obtain ⟨k, ws, a, rfl, _⟩ := h; rfl
  refine hide fun _ hG_ => ?_
  obtain ⟨k, ws, a, rfl, hk, ha, hz, q⟩ := h
  refine hG_ ?_
  clear hG_
  refine ⟨_, (pss_cons (ps_if (pt_cmpR op_ne (pv 0) pe_int (nomark _)) (pss_one (ps_ret (pe_comp ["whole"] ["kind"] [0] ⟨rfl, rfl, rfl, rfl, rfl, rfl, by decide +kernel⟩ rfl (pi_list0 (pv 1)) (gown_name (by decide)) fun _ _ _ _ _ _ => ⟨(pg_name (i := 0) (by decide : (["whole", "kind"] : List Str).Nodup) rfl (by first | exact Or.inl rfl | exact Or.inr rfl)), pts_nil, (pe_op op_modN (pv 0) (pv 1))⟩))) pss_nil) (pss_cons (ps_set (i := 2) sc_eased.nd rfl (by first | exact Or.inl rfl | exact Or.inr rfl) pe_int) (pss_cons (ps_for PassesOwn.never rfl (pi_list0 (pv 1)) (pg_name (i := 3) sc_eased.nd rfl (by first | exact Or.inl rfl | exact Or.inr rfl)) (pss_cons (ps_set (i := 2) sc_eased.nd rfl (by first | exact Or.inl rfl | exact Or.inr rfl) (pe_kn d_common_divisor (hr.mono (by decide)) rfl (pa_cons (pv 2) (pa_cons (pv 3) pa_nil)))) (pss_one (ps_if (pt_cmpR op_eq (pv 2) pe_int (nomark _)) (pss_one (ps_ret (pv 1))) pss_nil)))) (pss_cons (ps_if (pt_cmpR op_eq (pv 2) pe_int (nomark _)) (pss_one (ps_ret (pv 1))) pss_nil) (pss_one (ps_ret (pe_comp ["whole"] ["divisor"] [2] ⟨rfl, rfl, rfl, rfl, rfl, rfl, by decide +kernel⟩ rfl (pi_list0 (pv 1)) (gown_name (by decide)) fun _ _ _ _ _ _ => ⟨(pg_name (i := 0) (by decide : (["whole", "divisor"] : List Str).Nodup) rfl (by first | exact Or.inl rfl | exact Or.inr rfl)), pts_nil, (pe_op (op_fdivU hr (by decide) hP hS ⟨_, _, rfl, rfl, rfl, rfl, rfl⟩) (pv 0) (pv 1))⟩))))))), ?_⟩
  refine ⟨_, rfl, rfl, _, rfl, ?_⟩
  refine ite2 (fun c => ?_) (fun c => ?_)
  · have k0 : k ≠ 0 := fun z => by rw [z] at c; exact absurd c (by decide)
    refine ⟨_, rfl, a, rfl, ⟨_, SqL.of ha⟩, ?_⟩
    let Pv8_ : Nat → List V → Hp → Prop := fun i ys H' => H' = H ∧ ys = ((ws.take i).map (·.fmod k)).map V.int
    refine comp_list (xs := ws.map V.int) Pv8_ ⟨rfl, by simp⟩ ?_ ?_ ?_
    · rintro i ys H' hi ⟨rfl, rfl⟩
      refine ⟨SqL.of ha, ?_⟩
      rw [List.length_map, List.length_map, List.length_take]; (first | lia | omega)
    · rintro i v ys H' hv hi ⟨rfl, rfl⟩
      rw [List.getElem?_map] at hv
      refine hide fun _ hG_ => ?_
      obtain ⟨u, hu, rfl⟩ := Option.map_eq_some_iff.mp hv
      refine hG_ ?_
      clear hG_
      first | refine gyes ?_ | refine tyes ?_
      refine ⟨_, rfl, _, rfl, _, _, rfl, rfl, k0, nxt hi ⟨rfl, ?_⟩⟩
      rw [take_snoc hu, List.map_append, List.map_append]; rfl
    · rintro ys H' ⟨rfl, rfl⟩ p hp
      rw [List.length_map, List.take_length]
      refine q p _ (same_new hp _) ?_
      rw [La.easedM_mod k0]
      exact upd_same
  · have k0 : k = 0 := by
      by_cases z : k = 0
      · exact z
      · exact absurd (by have h' : ¬ V.int k = V.int 0 := fun e => z (V.int.inj e)
                         rw [decide_eq_false h']; rfl) c
    subst k0
    refine ⟨_, rfl, a, rfl, ⟨_, SqL.of ha⟩, ?_⟩
    let Pv9_ : Nat → L2.St → Hp → Prop := fun i σ H' => ∃ o, σ = [some (.int 0), some (.ref a), some (.int ((La.gcdL (ws.take i) : Nat) : Int)), o] ∧ H' = H
    refine for_list (xs := ws.map V.int) Pv9_ ⟨none, rfl, rfl⟩ ?_ ?_ ?_
    · intro i σ H' _ hI4_
      refine hide fun _ hG_ => ?_
      obtain ⟨o, rfl, rfl⟩ := hI4_
      refine hG_ ?_
      clear hG_
      exact SqL.of ha
    · intro i v σ H' hv hI5_
      refine hide fun _ hG_ => ?_
      obtain ⟨o, rfl, rfl⟩ := hI5_
      refine hG_ ?_
      clear hG_
      rw [List.getElem?_map] at hv
      refine hide fun _ hG_ => ?_
      obtain ⟨u, hu, rfl⟩ := Option.map_eq_some_iff.mp hv
      refine hG_ ?_
      clear hG_
      have eg : ((Int.gcd ((La.gcdL (ws.take i) : Nat) : Int) u : Nat) : Int) = ((La.gcdL (ws.take (i + 1)) : Nat) : Int) := by
        rw [take_snoc hu, La.gcdL_snoc, Int.gcd_eq_natAbs_gcd_natAbs, Int.natAbs_natCast]
      refine ⟨_, rfl, _, rfl, _, _, rfl, ?_⟩
      rw [eg]
      refine ⟨_, rfl, rfl, _, rfl, ?_⟩
      refine ite2 (fun c1 => ?_) (fun c1 => ?_)
      · have e1 : ((La.gcdL (ws.take (i + 1)) : Nat) : Int) = 1 := V.int.inj (of_decide_eq_true c1)
        refine ⟨_, rfl, q a _ (Same.refl _) ?_⟩
        rw [La.easedM_one (La.gcdL_one (i := i + 1) (by (first | lia | omega)))]
        exact ha
      · exact ⟨_, rfl, rfl⟩
    · intro σ H' hI2_
      refine hide fun _ hG_ => ?_
      obtain ⟨o, rfl, rfl⟩ := hI2_
      refine hG_ ?_
      clear hG_
      rw [List.length_map, List.take_length]
      refine ⟨_, rfl, rfl, _, rfl, ?_⟩
      refine ite2 (fun c1 => ?_) (fun c1 => ?_)
      · have e1 : ((La.gcdL ws : Nat) : Int) = 0 := V.int.inj (of_decide_eq_true c1)
        refine ⟨_, rfl, q a _ (Same.refl _) ?_⟩
        rw [La.easedM_nil (by (first | lia | omega))]
        exact ha
      · have e1 : ((La.gcdL ws : Nat) : Int) ≠ 0 := fun z => by rw [z] at c1; exact c1 (by decide)
        refine ⟨_, rfl, a, rfl, ⟨_, SqL.of ha⟩, ?_⟩
        let Pv10_ : Nat → List V → Hp → Prop := fun i ys H2 => H2 = H' ∧ ys = ((ws.take i).map fun w => w.fdiv ((La.gcdL ws : Nat) : Int)).map V.int
        refine comp_list (xs := ws.map V.int) Pv10_ ⟨rfl, by simp⟩ ?_ ?_ ?_
        · rintro i ys H2 hi ⟨rfl, rfl⟩
          refine ⟨SqL.of ha, ?_⟩
          rw [List.length_map, List.length_map, List.length_take]; (first | lia | omega)
        · rintro i v ys H2 hv hi ⟨rfl, rfl⟩
          rw [List.getElem?_map] at hv
          refine hide fun _ hG_ => ?_
          obtain ⟨u, hu, rfl⟩ := Option.map_eq_some_iff.mp hv
          refine hG_ ?_
          clear hG_
          first | refine gyes ?_ | refine tyes ?_
          refine ⟨_, rfl, _, rfl, _, _, rfl, rfl, e1, nxt hi ⟨rfl, ?_⟩⟩
          rw [take_snoc hu, List.map_append, List.map_append]; rfl
        · rintro ys H2 ⟨rfl, rfl⟩ p hp
          rw [List.length_map, List.take_length]
          refine q p _ (same_new hp _) ?_
          rw [La.easedM_div (by (first | lia | omega))]
          exact upd_same
/-! cleared -/
inductive Sp_cleared (vs : List V) (H : Hp) (Q : VK) : Prop where
  | mk (k : Int) (row lead : List Int) (c : Nat) (ra la : Addr) (b : Nat) (h0_ : vs = [.int k, .ref ra, .ref la, .int (0 + (c : Int))]) (h1_ : KindOk k) (h2_ : IRow H row ra) (h3_ : IRow H lead la) (h4_ : row.length = lead.length) (h5_ : c < row.length) (h6_ : row.length < sizeLine) (h7_ : (∀ w ∈ row, Sm b w)) (h8_ : (∀ w ∈ lead, Sm b w)) (h9_ : b ≤ 60000000) (h10_ : ∀ p H', Same H H' → IRow H' (La.clearedM k lead c row) p → Q (.ref p) H') : Sp_cleared  vs H Q
noncomputable def sp_cleared : Sp := fun vs H Q _ => Sp_cleared  vs H Q
theorem kn_cleared (D : Df K mg "cleared" ["kind", "row", "lead_row", "column"] s_cleared) (d_eased : Kn P w K mg base "eased" 41 ["kind", "wholes"] sp_eased) (m_zip : mg "zip" = none) : Kn P w K mg base "cleared" 42 ["kind", "row", "lead_row", "column"] sp_cleared := by
  refine D.kn sc_cleared (fun vs H Q E h => ?_) (fun f cdv A outer s H vs Q E hr h => ?_)
  · obtain ⟨k, row, lead, c, ra, la, b, rfl, _⟩ := h; rfl
  refine hide fun _ hG_ => ?_
  obtain ⟨k, row, lead, c, ra, la, b, rfl, hk, hra, hla, hl, hc, hz, s1, s2, hb, q⟩ := h
  refine hG_ ?_
  clear hG_
  refine ⟨_, (pss_cons (ps_if (pt_cmpR op_eq (pe_ix ix_list0 (pv 1) (pv 3) (fun _ _ => rfl)) pe_int (nomark _)) (pss_one (ps_ret (pv 1))) pss_nil) (pss_one (ps_ret (pe_kn d_eased (hr.mono (by decide)) rfl (pa_cons (pv 0) (pa_cons (pe_comp ["left", "right"] ["lead_row", "column", "row"] [2, 3, 1] ⟨rfl, rfl, rfl, rfl, rfl, rfl, by decide +kernel⟩ rfl (pi_zip0 rfl m_zip (pa_cons (pv 1) (pa_cons (pv 2) pa_nil))) (gown_tup (gowns_cons (gown_name (by decide)) gmono_name (gowns_cons (gown_name (by decide)) gmono_name gowns_nil))) fun _ _ _ _ _ _ => ⟨(pg_tup0 2 rfl (pgs_cons (pg_name (i := 0) (by decide : (["left", "right", "lead_row", "column", "row"] : List Str).Nodup) rfl (by first | exact Or.inl rfl | exact Or.inr rfl)) (pgs_cons (pg_name (i := 1) (by decide : (["left", "right", "lead_row", "column", "row"] : List Str).Nodup) rfl (by first | exact Or.inl rfl | exact Or.inr rfl)) pgs_nil))), pts_nil, (pe_op op_sub (pe_op op_mulB (pe_ix ix_list0 (pv 2) (pv 3) (fun _ _ => rfl)) (pv 0)) (pe_op op_mulB (pe_ix ix_list0 (pv 4) (pv 3) (fun _ _ => rfl)) (pv 1)))⟩) pa_nil)))))), ?_⟩
  refine ⟨_, rfl, _, rfl, ra, _, _, _, rfl, rfl, SqL.of hra, irow_at hra hc, rfl, _, rfl, ?_⟩
  refine ite2 (fun c1 => ?_) (fun c1 => ?_)
  · have e1 : row.getD c 0 = 0 := V.int.inj (of_decide_eq_true c1)
    refine ⟨_, rfl, q ra _ (Same.refl _) ?_⟩
    unfold La.clearedM
    rw [if_pos e1]
    exact hra
  · have e1 : row.getD c 0 ≠ 0 := fun z => by rw [z] at c1; exact c1 (by decide)
    refine ⟨_, rfl, _, rfl, _, rfl, ra, la, _, _, rfl, SqL.of hra, SqL.of hla, ?_⟩
    let Pv11_ : Nat → List V → Hp → Prop := fun i ys' H' => Same H H' ∧ ys' = ((La.mixed row lead c).take i).map V.int
    refine comp_zip (xs := row.map V.int) (zs := lead.map V.int) (by rw [List.length_map, List.length_map]; (first | lia | omega)) Pv11_ ⟨Same.refl H, by simp⟩ ?_ ?_ ?_
    · rintro i ys' H' hi ⟨g, rfl⟩
      refine ⟨SqL.of (hra.mono g), SqL.of (hla.mono g), ?_⟩
      rw [List.length_map, List.length_take, La.mixed_len hl]
      (first | lia | omega)
    · rintro i x z T ys' H' hx hy hi hT ⟨g, rfl⟩
      rw [List.getElem?_map] at hx hy
      refine hide fun _ hG_ => ?_
      obtain ⟨u, hu, rfl⟩ := Option.map_eq_some_iff.mp hx
      refine hG_ ?_
      clear hG_
      refine hide fun _ hG_ => ?_
      obtain ⟨u', hu', rfl⟩ := Option.map_eq_some_iff.mp hy
      refine hG_ ?_
      clear hG_
      have g' := g.trans (same_new hT (.tup [.int u, .int u']))
      refine ⟨T, _, rfl, SqT.of upd_same, rfl, _, _, rfl, _, _, rfl, rfl, ?_⟩
      first | refine gyes ?_ | refine tyes ?_
      refine ⟨_, rfl, _, rfl, la, _, _, _, rfl, rfl, SqL.of (hla.mono g'), irow_at (hla.mono g') (by (first | lia | omega)), _, rfl, _, _, rfl, rfl, (getD_sz s2 c).mulOk (s1 u (List.mem_of_getElem? hu)) (by (first | lia | omega)), ?_⟩
      refine ⟨_, rfl, _, rfl, ra, _, _, _, rfl, rfl, SqL.of (hra.mono g'), irow_at (hra.mono g') (by (first | lia | omega)), _, rfl, _, _, rfl, rfl, (getD_sz s1 c).mulOk (s2 u' (List.mem_of_getElem? hu')) (by (first | lia | omega)), _, _, rfl, rfl, nxt hi ⟨g', ?_⟩⟩
      have e : (La.mixed row lead c)[i]? = some (lead.getD c 0 * u - row.getD c 0 * u') := by unfold La.mixed; rw [List.getElem?_zipWith, hu, hu']
      rw [take_snoc e, List.map_append]; rfl
    · rintro ys' H' ⟨g, rfl⟩ pl hpl
      rw [List.length_map, List.take_of_length_le (by rw [La.mixed_len hl]; exact Nat.le_refl _)]
      refine ⟨k, _, pl, rfl, hk, upd_same, by rw [La.mixed_len hl]; exact hz, fun p H2 g2 hp => ?_⟩
      refine q p H2 ((g.trans (same_new hpl _)).trans g2) ?_
      unfold La.clearedM
      rw [if_neg e1]
      exact hp
/-! swept -/
inductive Sp_swept (vs : List V) (H : Hp) (Q : VK) : Prop where
  | mk (k : Int) (Ws : List (List Int)) (n b : Nat) (t : Addr) (ras : List Addr) (h0_ : vs = [.int k, .ref t]) (h1_ : KindOk k) (h2_ : IRs H Ws t ras) (h3_ : (∀ r ∈ Ws, r.length = n)) (h4_ : n < sizeLine) (h5_ : Ws.length ≤ 8000000) (h6_ : (∀ r ∈ Ws, ∀ w ∈ r, Sm b w)) (h7_ : 7 ≤ b) (h8_ : (b + 1) * 2 ^ n ≤ 60000000) (h9_ : ∀ p rs H', Same H H' → IRs H' ((La.swTo k Ws n).1.map (·.2)) p rs → Q (.ref p) H') : Sp_swept  vs H Q
noncomputable def sp_swept : Sp := fun vs H Q _ => Sp_swept  vs H Q
theorem kn_swept (D : Df K mg "swept" ["kind", "rows"] s_swept) (d_eased : Kn P w K mg base "eased" 41 ["kind", "wholes"] sp_eased) (d_cleared : Kn P w K mg base "cleared" 42 ["kind", "row", "lead_row", "column"] sp_cleared) (m_len : mg "len" = none) (m_range : mg "range" = none) : Kn P w K mg base "swept" 43 ["kind", "rows"] sp_swept := by
  refine D.kn sc_swept (fun vs H Q E h => ?_) (fun f cdv A outer s H vs Q E hr h => ?_)
  · obtain ⟨k, Ws, n, b, t, ras, rfl, _⟩ := h; rfl
  refine hide fun _ hG_ => ?_
  obtain ⟨k, Ws, n, b, t, ras, rfl, hk, hI, hl, nz, wz, sz, b7, hb, q⟩ := h
  refine hG_ ?_
  clear hG_
  have szl : sizeLine = 16777216 := by decide
  have lras := pd_len hI.2
  refine ⟨_, (pss_cons (ps_set (i := 2) sc_swept.nd rfl (by first | exact Or.inl rfl | exact Or.inr rfl) (pe_lst pa_nil)) (pss_cons (ps_setC (i := 3) sc_swept.nd rfl rfl ["row"] ["kind"] [0] ⟨rfl, rfl, rfl, rfl, rfl, rfl, by decide +kernel⟩ rfl (pi_list0 (pv 1)) (gown_name (by decide)) fun _ _ _ _ _ _ => ⟨(pg_name (i := 0) (by decide : (["row", "kind"] : List Str).Nodup) rfl (by first | exact Or.inl rfl | exact Or.inr rfl)), pts_nil, (pe_kn d_eased (hr.mono (by decide)) rfl (pa_cons (pv 1) (pa_cons (pv 0) pa_nil)))⟩) (pss_cons (ps_set (i := 4) sc_swept.nd rfl (by first | exact Or.inl rfl | exact Or.inr rfl) (pe_ifExp (pt_cmpR op_gt (pe_callB call_len0 rfl m_len bb_len (pa_cons (pv 1) pa_nil)) pe_int (nomark _)) (pe_callB call_len0 rfl m_len bb_len (pa_cons (pe_ix ix_list0 (pv 1) pe_int (fun _ _ => rfl)) pa_nil)) pe_int)) (pss_cons (ps_for PassesOwn.never rfl (pi_range1 rfl m_range (pa_cons (pv 4) pa_nil)) (pg_name (i := 5) sc_swept.nd rfl (by first | exact Or.inl rfl | exact Or.inr rfl)) (pss_cons (ps_setC (i := 6) sc_swept.nd rfl rfl ["row"] ["column"] [5] ⟨rfl, rfl, rfl, rfl, rfl, rfl, by decide +kernel⟩ rfl (pi_list0 (pv 3)) (gown_name (by decide)) fun _ _ _ _ _ _ => ⟨(pg_name (i := 0) (by decide : (["row", "column"] : List Str).Nodup) rfl (by first | exact Or.inl rfl | exact Or.inr rfl)), (pts_one (pt_cmpR op_ne (pe_ix ix_list0 (pv 0) (pv 1) (fun _ _ => rfl)) pe_int (nomark _))), (pv 0)⟩) (pss_one (ps_if (pt_cmpR op_gt (pe_callB call_len0 rfl m_len bb_len (pa_cons (pv 6) pa_nil)) pe_int (nomark _)) (pss_cons (ps_set (i := 7) sc_swept.nd rfl (by first | exact Or.inl rfl | exact Or.inr rfl) (pe_ix ix_list0 (pv 6) pe_int (fun _ _ => rfl))) (pss_cons (ps_setC (i := 3) sc_swept.nd rfl rfl ["row"] ["column"] [5] ⟨rfl, rfl, rfl, rfl, rfl, rfl, by decide +kernel⟩ rfl (pi_list0 (pv 3)) (gown_name (by decide)) fun _ _ _ _ _ _ => ⟨(pg_name (i := 0) (by decide : (["row", "column"] : List Str).Nodup) rfl (by first | exact Or.inl rfl | exact Or.inr rfl)), (pts_one (pt_cmpR op_eq (pe_ix ix_list0 (pv 0) (pv 1) (fun _ _ => rfl)) pe_int (nomark _))), (pv 0)⟩) (pss_cons (ps_expr (bm0 (fun _ h => pe_bm PySem.F.plainAttrs_list PySem.F.slot_list_extend PySem.F.type_list_extend mt_extend h (pa_cons (pe_comp ["row"] ["kind", "lead_row", "column"] [0, 7, 5] ⟨rfl, rfl, rfl, rfl, rfl, rfl, by decide +kernel⟩ rfl (pi_list0 (pe_slice sl_list0 (pv 6) (po_some pe_int) po_none)) (gown_name (by decide)) fun _ _ _ _ _ _ => ⟨(pg_name (i := 0) (by decide : (["row", "kind", "lead_row", "column"] : List Str).Nodup) rfl (by first | exact Or.inl rfl | exact Or.inr rfl)), pts_nil, (pe_kn d_cleared (hr.mono (by decide)) rfl (pa_cons (pv 1) (pa_cons (pv 0) (pa_cons (pv 2) (pa_cons (pv 3) pa_nil)))))⟩) pa_nil)) (pv 3))) (pss_cons (ps_setC (i := 2) sc_swept.nd rfl rfl ["row"] ["kind", "lead_row", "column"] [0, 7, 5] ⟨rfl, rfl, rfl, rfl, rfl, rfl, by decide +kernel⟩ rfl (pi_list0 (pv 2)) (gown_name (by decide)) fun _ _ _ _ _ _ => ⟨(pg_name (i := 0) (by decide : (["row", "kind", "lead_row", "column"] : List Str).Nodup) rfl (by first | exact Or.inl rfl | exact Or.inr rfl)), pts_nil, (pe_kn d_cleared (hr.mono (by decide)) rfl (pa_cons (pv 1) (pa_cons (pv 0) (pa_cons (pv 2) (pa_cons (pv 3) pa_nil)))))⟩) (pss_one (ps_expr (bm0 (fun _ h => pe_bm PySem.F.plainAttrs_list PySem.F.slot_list_append PySem.F.type_list_append mt_append h (pa_cons (pv 7) pa_nil)) (pv 2)))))))) pss_nil)))) (pss_one (ps_ret (pv 2))))))), ?_⟩
  refine ⟨(by show 0 ≤ sizeLine; decide), fun pd hpd => ?_⟩
  have g0 := same_new hpd (.lst [])
  have hpd0 : upd H pd (.lst []) pd = some (.lst []) := upd_same
  generalize upd H pd (.lst []) = H0 at *
  refine ⟨_, rfl, t, rfl, ⟨_, SqL.of (g0 _ _ hI.1)⟩, ?_⟩
  let Pv12_ : Nat → List V → Hp → Prop := fun i ys H' => ∃ rs, ys = rs.map V.ref ∧ Same H0 H' ∧ Paired (IRow H') ((Ws.map (La.easedM k)).take i) rs
  refine comp_list (xs := ras.map V.ref) Pv12_ ⟨[], rfl, Same.refl _, .nil⟩ ?_ ?_ ?_
  · intro i ys H' hi hI4_
    refine hide fun _ hG_ => ?_
    obtain ⟨rs, rfl, g, pr⟩ := hI4_
    refine hG_ ?_
    clear hG_
    refine ⟨SqL.of (g _ _ (g0 _ _ hI.1)), ?_⟩
    have := pd_len pr
    rw [List.length_take, List.length_map] at this
    rw [List.length_map]; (first | lia | omega)
  · intro i v ys H' hv hi hI6_
    refine hide fun _ hG_ => ?_
    obtain ⟨rs, rfl, g, pr⟩ := hI6_
    refine hG_ ?_
    clear hG_
    refine hide fun _ hG_ => ?_
    obtain ⟨ws, a, hw, ha, rfl, hrow⟩ := (hI.mono (g0.trans g)).row hv
    refine hG_ ?_
    clear hG_
    first | refine gyes ?_ | refine tyes ?_
    refine ⟨_, rfl, _, rfl, k, ws, a, rfl, hk, hrow, by rw [hl ws (List.mem_of_getElem? hw)]; exact nz, fun p H2 g2 hp => nxt hi ⟨rs ++ [p], by rw [List.map_append]; rfl, g.trans g2, ?_⟩⟩
    have e : (Ws.map (La.easedM k))[i]? = some (La.easedM k ws) := by rw [List.getElem?_map, hw]; rfl
    rw [take_snoc e]
    exact pd_snoc (pd_ir g2 pr) hp
  intro ys H' hI2_ pw hpw
  refine hide fun _ hG_ => ?_
  obtain ⟨rs, rfl, g, pr⟩ := hI2_
  refine hG_ ?_
  clear hG_
  rw [List.length_map, List.take_of_length_le (by rw [List.length_map]; (first | lia | omega))] at pr
  have g1 := (g0.trans g).trans (same_new hpw (.lst (rs.map V.ref)))
  have hpw1 : upd H' pw (.lst (rs.map V.ref)) pw = some (.lst (rs.map V.ref)) := upd_same
  have pr1 := pd_ir (same_new hpw (.lst (rs.map V.ref))) pr
  have hpd1 := same_new hpw (.lst (rs.map V.ref)) _ _ (g _ _ hpd0)
  generalize upd H' pw (.lst (rs.map V.ref)) = H1 at *
  clear g pr hpw g0 hpd0
  refine ⟨_, rfl, t, _, rfl, .inl (SqL.of (g1 _ _ hI.1)), _, _, rfl, rfl, _, rfl, ?_⟩
  rw [List.length_map, ← lras]
  refine ite2 (fun c => ?_) (fun c => ?_)
  · have c' : 0 < (Ws.length : Int) := of_decide_eq_true c
    obtain ⟨r0, ras', e0⟩ : ∃ r0 ras', ras = r0 :: ras' := by
      cases ras with
      | nil => rw [List.length_nil] at lras; (first | lia | omega)
      | cons a b => exact ⟨a, b, rfl⟩
    obtain ⟨w0, hw0, hr0⟩ := pd_right (hI.mono g1).2 (i := 0) (b := r0) (by rw [e0]; rfl)
    have lw0 := hl w0 (List.mem_of_getElem? hw0)
    refine ⟨_, rfl, t, _, _, _, rfl, rfl, SqL.of (g1 _ _ hI.1), (by rw [e0]; exact atI_nat (j := 0) rfl), r0, _, rfl, .inl (SqL.of hr0), ?_⟩
    rw [List.length_map, lw0]
    refine ⟨_, rfl, _, rfl, (by (first | lia | omega)), (by (first | lia | omega)), ?_⟩
    rw [Int.toNat_natCast]
    have fine := La.Fine.to (k := k) hk.lt.1 hl
    have szs := sz_to hk b7 hl sz
    have lens := La.swTo_len (k := k) Ws
    refine for_range (lo := 0) (n := n) (fun i σ H' => ∃ td tw rd rw o5 o6 o7, σ = [some (.int k), some (.ref t), some (.ref td), some (.ref tw), some (.int (n : Int)), o5, o6, o7] ∧ Same H H' ∧ IRs H' ((La.swTo k Ws i).1.map (·.2)) td rd ∧ IRs H' (La.swTo k Ws i).2 tw rw) ⟨pd, pw, [], rs, none, none, none, rfl, g1, ⟨hpd1, .nil⟩, ⟨hpw1, pr1⟩⟩ ?_ ?_ --nolet
    · intro i σ H2 hi hI4_
      refine hide fun _ hG_ => ?_
      obtain ⟨td, tw, rd, rw', o5, o6, o7, rfl, g2, hD, hW⟩ := hI4_
      refine hG_ ?_
      clear hG_
      have fi := fine i
      have si := szs i
      have li := lens i
      have e1 : La.swTo k Ws (i + 1) = La.swTurn k i (La.swTo k Ws i) := rfl
      rw [e1]
      generalize La.swTo k Ws i = S at *
      obtain ⟨Dn, Wt⟩ := S
      have bnd : (b + 1) * 2 ^ i - 1 ≤ 60000000 := by
        have : 2 ^ i ≤ 2 ^ n := Nat.pow_le_pow_right (by decide) (by (first | lia | omega))
        have : (b + 1) * 2 ^ i ≤ (b + 1) * 2 ^ n := Nat.mul_le_mul_left _ this
        (first | lia | omega)
      generalize (b + 1) * 2 ^ i - 1 = bb at *
      dsimp only at hD hW li
      have lD := pd_len hD.2
      have lW := pd_len hW.2
      rw [List.length_map] at lD
      have wlen : ∀ ws ∈ Wt, ws.length = n := fi.wl
      have dlen : ∀ ws ∈ Dn.map (·.2), ws.length = n := fun ws hw => by
        refine hide fun _ hG_ => ?_
        obtain ⟨p, hp, rfl⟩ := List.mem_map.mp hw
        refine hG_ ?_
        clear hG_
        exact fi.dl p hp
      have nn : ∀ ws : List Int, ws.length = n → ws ≠ [] := fun ws h e => by rw [e] at h; simp at h; (first | lia | omega)
      -- leading
      refine ⟨_, rfl, tw, rfl, ⟨_, SqL.of hW.1⟩, ?_⟩
      let Pv13_ : Nat → List V → Hp → Prop := fun j ys H3 => H3 = H2 ∧ ∃ rl, ys = rl.map V.ref ∧ Paired (IRow H2) ((Wt.take j).filter fun r => decide (r.getD i 0 ≠ 0)) rl
      refine comp_list (xs := rw'.map V.ref) Pv13_ ⟨rfl, [], rfl, .nil⟩ ?_ ?_ ?_
      · intro j ys H3 hj hI4_
        refine hide fun _ hG_ => ?_
        obtain ⟨rfl, rl, rfl, prl⟩ := hI4_
        refine hG_ ?_
        clear hG_
        refine ⟨SqL.of hW.1, ?_⟩
        have := pd_len prl
        have h2 := List.length_filter_le (fun r : List Int => decide (r.getD i 0 ≠ 0)) (Wt.take j)
        rw [List.length_take] at h2
        rw [List.length_map]; (first | lia | omega)
      · intro j v ys H3 hv hj hI6_
        refine hide fun _ hG_ => ?_
        obtain ⟨rfl, rl, rfl, prl⟩ := hI6_
        refine hG_ ?_
        clear hG_
        refine hide fun _ hG_ => ?_
        obtain ⟨ws, a, hw, ha, rfl, hrow⟩ := hW.row hv
        refine hG_ ?_
        clear hG_
        have lw := wlen ws (List.mem_of_getElem? hw)
        refine ⟨_, rfl, _, rfl, a, _, _, _, rfl, rfl, SqL.of hrow, irow_at hrow (by (first | lia | omega)), rfl, _, rfl, ?_⟩
        refine ite2 (fun c1 => ?_) (fun c1 => ?_)
        · have z : ws.getD i 0 ≠ 0 := fun z => by rw [z] at c1; exact absurd c1 (by decide)
          refine ⟨_, rfl, nxt hj ⟨rfl, rl ++ [a], by rw [List.map_append]; rfl, ?_⟩⟩
          rw [La.filter_snoc _ hw, if_pos (decide_eq_true z)]
          exact pd_snoc prl hrow
        · have z : ws.getD i 0 = 0 := by
            by_cases z : ws.getD i 0 = 0
            · exact z
            · exact absurd (by have h' : ¬ V.int (ws.getD i 0) = V.int 0 := fun e => z (V.int.inj e)
                               rw [decide_eq_false h']; rfl) c1
          refine nxt hj ⟨rfl, rl, rfl, ?_⟩
          rw [La.filter_snoc _ hw, if_neg (show ¬ decide (ws.getD i 0 ≠ 0) = true from fun h => of_decide_eq_true h z), List.append_nil]
          exact prl
      intro ys H3 hI2_ pl hpl
      refine hide fun _ hG_ => ?_
      obtain ⟨rfl, rl, rfl, prl⟩ := hI2_
      refine hG_ ?_
      clear hG_
      rw [List.length_map, List.take_of_length_le (by (first | lia | omega))] at prl
      have g3 := same_new hpl (.lst (rl.map V.ref))
      have hpl3 : upd H3 pl (.lst (rl.map V.ref)) pl = some (.lst (rl.map V.ref)) := upd_same
      have prl3 := pd_ir g3 prl
      have hD3 := hD.mono g3
      have hW3 := hW.mono g3
      have g23 := g2.trans g3
      generalize upd H3 pl (.lst (rl.map V.ref)) = H4 at *
      clear prl hpl hD hW
      have lrl := pd_len prl3
      refine ⟨_, rfl, pl, _, rfl, .inl (SqL.of hpl3), _, _, rfl, rfl, _, rfl, ?_⟩
      rw [List.length_map, ← lrl]
      refine ite2 (fun c1 => ?_) (fun c1 => ?_)
      · have c2 : 0 < ((Wt.filter fun r => decide (r.getD i 0 ≠ 0)).length : Int) := of_decide_eq_true c1
        cases ef : Wt.filter (fun r => decide (r.getD i 0 ≠ 0)) with
        | nil => rw [ef] at c2; simp at c2
        | cons lead rest =>
          rw [ef] at prl3 lrl
          have turn : La.swTurn k i (Dn, Wt) = (Dn.map (fun p => (p.1, La.clearedM k lead i p.2)) ++ [(i, lead)], Wt.filter (fun r => decide (r.getD i 0 = 0)) ++ rest.map (La.clearedM k lead i)) := by
            unfold La.swTurn
            simp only [ef]
          rw [turn]
          obtain ⟨ld, rl', rfl⟩ : ∃ ld rl', rl = ld :: rl' := by
            cases rl with
            | nil => simp at lrl
            | cons a b => exact ⟨a, b, rfl⟩
          obtain ⟨hld, prest⟩ : IRow H4 lead ld ∧ Paired (IRow H4) rest rl' := by
            cases prl3 with
            | cons h t => exact ⟨h, t⟩
          have memW : ∀ r ∈ lead :: rest, r ∈ Wt := fun r hr => by rw [← ef] at hr; exact (List.mem_filter.mp hr).1
          have hlead := memW lead List.mem_cons_self
          have llead := wlen lead hlead
          have slead := si.2 lead hlead
          have lf := List.length_filter_le (fun r : List Int => decide (r.getD i 0 ≠ 0)) Wt
          rw [ef, List.length_cons] at lf
          refine ⟨_, rfl, pl, _, _, _, rfl, rfl, SqL.of hpl3, atI_nat (j := 0) rfl, ?_⟩
          -- waiting
          refine ⟨_, rfl, tw, rfl, ⟨_, SqL.of hW3.1⟩, ?_⟩
          let Pv14_ : Nat → List V → Hp → Prop := fun j ys H5 => H5 = H4 ∧ ∃ rz, ys = rz.map V.ref ∧ Paired (IRow H4) ((Wt.take j).filter fun r => decide (r.getD i 0 = 0)) rz
          refine comp_list (xs := rw'.map V.ref) Pv14_ ⟨rfl, [], rfl, .nil⟩ ?_ ?_ ?_
          · intro j ys H5 hj hI4_
            refine hide fun _ hG_ => ?_
            obtain ⟨rfl, rz, rfl, prz⟩ := hI4_
            refine hG_ ?_
            clear hG_
            refine ⟨SqL.of hW3.1, ?_⟩
            have := pd_len prz
            have h2 := List.length_filter_le (fun r : List Int => decide (r.getD i 0 = 0)) (Wt.take j)
            rw [List.length_take] at h2
            rw [List.length_map]; (first | lia | omega)
          · intro j v ys H5 hv hj hI6_
            refine hide fun _ hG_ => ?_
            obtain ⟨rfl, rz, rfl, prz⟩ := hI6_
            refine hG_ ?_
            clear hG_
            refine hide fun _ hG_ => ?_
            obtain ⟨ws, a, hw, ha, rfl, hrow⟩ := hW3.row hv
            refine hG_ ?_
            clear hG_
            have lw := wlen ws (List.mem_of_getElem? hw)
            refine ⟨_, rfl, _, rfl, a, _, _, _, rfl, rfl, SqL.of hrow, irow_at hrow (by (first | lia | omega)), rfl, _, rfl, ?_⟩
            refine ite2 (fun c1 => ?_) (fun c1 => ?_)
            · have z : ws.getD i 0 = 0 := V.int.inj (of_decide_eq_true c1)
              refine ⟨_, rfl, nxt hj ⟨rfl, rz ++ [a], by rw [List.map_append]; rfl, ?_⟩⟩
              rw [La.filter_snoc _ hw, if_pos (decide_eq_true z)]
              exact pd_snoc prz hrow
            · have z : ws.getD i 0 ≠ 0 := fun z => by rw [z] at c1; exact c1 (by decide)
              refine nxt hj ⟨rfl, rz, rfl, ?_⟩
              rw [La.filter_snoc _ hw, if_neg (show ¬ decide (ws.getD i 0 = 0) = true from fun h => z (of_decide_eq_true h)), List.append_nil]
              exact prz
          intro ys H5 hI2_ pz hpz
          refine hide fun _ hG_ => ?_
          obtain ⟨rfl, rz, rfl, prz⟩ := hI2_
          refine hG_ ?_
          clear hG_
          rw [List.length_map, List.take_of_length_le (by (first | lia | omega))] at prz
          have g5 := same_new hpz (.lst (rz.map V.ref))
          have hpz5 : upd H5 pz (.lst (rz.map V.ref)) pz = some (.lst (rz.map V.ref)) := upd_same
          have pzH : H pz = none := g23.none hpz
          have ntd : td ≠ pz := fun e => by rw [← e, hD3.1] at hpz; cases hpz
          have prz5 := pd_ir g5 prz
          have prest5 := pd_ir g5 prest
          have hld5 := hld.mono g5
          have hD5 := hD3.mono g5
          have hpl5 := g5 _ _ hpl3
          have g25 := g23.trans g5
          generalize upd H5 pz (.lst (rz.map V.ref)) = H6 at *
          clear prz hpz prest hld hD3 hpl3 g23 hW3 prl3 g3 g5 c1
          have lrz := pd_len prz5
          have lfz := List.length_filter_le (fun r : List Int => decide (r.getD i 0 = 0)) Wt
          have zlen : ∀ ws ∈ Wt.filter (fun r => decide (r.getD i 0 = 0)), ws.length = n := fun ws hw => wlen ws (List.mem_filter.mp hw).1
          have lrest := pd_len prest5
          -- extend
          refine ⟨_, rfl, .inl ⟨rfl, _, SqL.of hpz5⟩, _, rfl, _, rfl, pl, _, rfl, SqL.of hpl5, fun pc hpc => ?_⟩
          rw [cut1]
          have g7 := same_new hpc (.lst (((ld :: rl').map V.ref).drop 1))
          have hpc7 : upd H6 pc (.lst (((ld :: rl').map V.ref).drop 1)) pc = some (.lst (rl'.map V.ref)) := upd_same
          generalize upd H6 pc (.lst (((ld :: rl').map V.ref).drop 1)) = H7 at *
          refine ⟨pc, rfl, ⟨_, SqL.of hpc7⟩, ?_⟩
          let Pv15_ : Nat → List V → Hp → Prop := fun j ys H8 => ∃ rc, ys = rc.map V.ref ∧ Same H7 H8 ∧ Paired (IRow H8) ((rest.map (La.clearedM k lead i)).take j) rc
          refine comp_list (xs := rl'.map V.ref) Pv15_ ⟨[], rfl, Same.refl _, .nil⟩ ?_ ?_ ?_
          · intro j ys H8 hj hI4_
            refine hide fun _ hG_ => ?_
            obtain ⟨rc, rfl, g8, prc⟩ := hI4_
            refine hG_ ?_
            clear hG_
            refine ⟨SqL.of (g8 _ _ hpc7), ?_⟩
            have := pd_len prc
            rw [List.length_take, List.length_map] at this
            rw [List.length_map]; (first | lia | omega)
          · intro j v ys H8 hv hj hI6_
            refine hide fun _ hG_ => ?_
            obtain ⟨rc, rfl, g8, prc⟩ := hI6_
            refine hG_ ?_
            clear hG_
            rw [List.getElem?_map] at hv
            refine hide fun _ hG_ => ?_
            obtain ⟨a, ha, rfl⟩ := Option.map_eq_some_iff.mp hv
            refine hG_ ?_
            clear hG_
            refine hide fun _ hG_ => ?_
            obtain ⟨ws, hw, hrow⟩ := pd_right prest5 ha
            refine hG_ ?_
            clear hG_
            have hm := memW ws (List.mem_cons_of_mem _ (List.mem_of_getElem? hw))
            have lw := wlen ws hm
            first | refine gyes ?_ | refine tyes ?_
            refine ⟨_, rfl, _, rfl, _, rfl, _, rfl, k, ws, lead, i, a, ld, bb, rfl, hk, hrow.mono (g7.trans g8), hld5.mono (g7.trans g8), by (first | lia | omega), by (first | lia | omega), by (first | lia | omega), si.2 ws hm, slead, bnd, fun p H9 g9 hp => nxt hj ⟨rc ++ [p], by rw [List.map_append]; rfl, g8.trans g9, ?_⟩⟩
            have e : (rest.map (La.clearedM k lead i))[j]? = some (La.clearedM k lead i ws) := by rw [List.getElem?_map, hw]; rfl
            rw [take_snoc e]
            exact pd_snoc (pd_ir g9 prc) hp
          intro ys H8 hI2_ pe hpe
          refine hide fun _ hG_ => ?_
          obtain ⟨rc, rfl, g8, prc⟩ := hI2_
          refine hG_ ?_
          clear hG_
          rw [List.length_map, List.take_of_length_le (by rw [List.length_map]; (first | lia | omega))] at prc
          have lrc := pd_len prc
          rw [List.length_map] at lrc
          have g9 := (g7.trans g8).trans (same_new hpe (.lst (rc.map V.ref)))
          have hpe9 : upd H8 pe (.lst (rc.map V.ref)) pe = some (.lst (rc.map V.ref)) := upd_same
          have prc9 := pd_ir (same_new hpe (.lst (rc.map V.ref))) prc
          generalize upd H8 pe (.lst (rc.map V.ref)) = H9 at *
          clear prc hpe g8 hpc7 hpc g7
          have clen : ∀ ws ∈ rest.map (La.clearedM k lead i), ws.length = n := fun ws hw => by
            refine hide fun _ hG_ => ?_
            obtain ⟨x, hx, rfl⟩ := List.mem_map.mp hw
            refine hG_ ?_
            clear hG_
            have hm := wlen x (memW x (List.mem_cons_of_mem _ hx))
            rw [La.clearedM_len (by (first | lia | omega))]; exact hm
          refine ⟨pz, pe, _, _, rfl, rfl, g9 _ _ hpz5, hpe9, (by rw [List.length_map, List.length_map]; (first | lia | omega)), ?_⟩
          have hpz9 := g9 _ _ hpz5
          have prz10 := pd_ir_upd (o := .lst (rz.map V.ref ++ rc.map V.ref)) hpz9 (pd_ir g9 prz5) fun ws hw => nn ws (zlen ws hw)
          have prc10 := pd_ir_upd (o := .lst (rz.map V.ref ++ rc.map V.ref)) hpz9 prc9 fun ws hw => nn ws (clen ws hw)
          have hld10 : IRow (upd H9 pz (.lst (rz.map V.ref ++ rc.map V.ref))) lead ld := by
            show upd H9 pz _ ld = _
            rw [upd_ne ((hld5.mono g9).ne (nn lead llead) hpz9)]; exact hld5.mono g9
          have hW10 : upd H9 pz (.lst (rz.map V.ref ++ rc.map V.ref)) pz = some (.lst ((rz ++ rc).map V.ref)) := by rw [upd_same, List.map_append]
          have hD10 : IRs (upd H9 pz (.lst (rz.map V.ref ++ rc.map V.ref))) (Dn.map (·.2)) td rd := ⟨by rw [upd_ne ntd]; exact g9 _ _ hD5.1, pd_ir_upd hpz9 (pd_ir g9 hD5.2) fun ws hw => nn ws (dlen ws hw)⟩
          have g10 : Same H (upd H9 pz (.lst (rz.map V.ref ++ rc.map V.ref))) := same_upd (g25.trans g9) pzH
          generalize upd H9 pz (.lst (rz.map V.ref ++ rc.map V.ref)) = H10 at *
          clear hpz9 hD5 hld5 prz5 prc9 hpe9 prest5 hpl5
          -- done
          refine ⟨_, rfl, td, rfl, ⟨_, SqL.of hD10.1⟩, ?_⟩
          let Pv16_ : Nat → List V → Hp → Prop := fun j ys H11 => ∃ rn, ys = rn.map V.ref ∧ Same H10 H11 ∧ Paired (IRow H11) ((Dn.map fun p => La.clearedM k lead i p.2).take j) rn
          refine comp_list (xs := rd.map V.ref) Pv16_ ⟨[], rfl, Same.refl _, .nil⟩ ?_ ?_ ?_
          · intro j ys H11 hj hI4_
            refine hide fun _ hG_ => ?_
            obtain ⟨rn, rfl, g11, prn⟩ := hI4_
            refine hG_ ?_
            clear hG_
            refine ⟨SqL.of (g11 _ _ hD10.1), ?_⟩
            have := pd_len prn
            rw [List.length_take, List.length_map] at this
            rw [List.length_map]; (first | lia | omega)
          · intro j v ys H11 hv hj hI6_
            refine hide fun _ hG_ => ?_
            obtain ⟨rn, rfl, g11, prn⟩ := hI6_
            refine hG_ ?_
            clear hG_
            refine hide fun _ hG_ => ?_
            obtain ⟨ws, a, hw, ha, rfl, hrow⟩ := (hD10.mono g11).row hv
            refine hG_ ?_
            clear hG_
            rw [List.getElem?_map] at hw
            refine hide fun _ hG_ => ?_
            obtain ⟨p0, hp0, rfl⟩ := Option.map_eq_some_iff.mp hw
            refine hG_ ?_
            clear hG_
            have hm := List.mem_of_getElem? hp0
            have lw := fi.dl p0 hm
            first | refine gyes ?_ | refine tyes ?_
            refine ⟨_, rfl, _, rfl, _, rfl, _, rfl, k, p0.2, lead, i, a, ld, bb, rfl, hk, hrow, hld10.mono g11, by (first | lia | omega), by (first | lia | omega), by (first | lia | omega), si.1 p0 hm, slead, bnd, fun p H12 g12 hp => nxt hj ⟨rn ++ [p], by rw [List.map_append]; rfl, g11.trans g12, ?_⟩⟩
            have e : (Dn.map fun p => La.clearedM k lead i p.2)[j]? = some (La.clearedM k lead i p0.2) := by rw [List.getElem?_map, hp0]; rfl
            rw [take_snoc e]
            exact pd_snoc (pd_ir g12 prn) hp
          intro ys H11 hI2_ pn hpn
          refine hide fun _ hG_ => ?_
          obtain ⟨rn, rfl, g11, prn⟩ := hI2_
          refine hG_ ?_
          clear hG_
          rw [List.length_map, List.take_of_length_le (by rw [List.length_map]; (first | lia | omega))] at prn
          have lrn := pd_len prn
          rw [List.length_map] at lrn
          have nlen : ∀ ws ∈ Dn.map (fun p => La.clearedM k lead i p.2), ws.length = n := fun ws hw => by
            refine hide fun _ hG_ => ?_
            obtain ⟨x, hx, rfl⟩ := List.mem_map.mp hw
            refine hG_ ?_
            clear hG_
            have hm := fi.dl x hx
            rw [La.clearedM_len (by (first | lia | omega))]; exact hm
          have npz : pz ≠ pn := fun e => by rw [← e, g11 _ _ hW10] at hpn; cases hpn
          have pnH : H pn = none := (g10.trans g11).none hpn
          have g12 := same_new hpn (.lst (rn.map V.ref))
          have hpn12 : upd H11 pn (.lst (rn.map V.ref)) pn = some (.lst (rn.map V.ref)) := upd_same
          have prn12 := pd_ir g12 prn
          have prz12 := pd_ir (g11.trans g12) prz10
          have prc12 := pd_ir (g11.trans g12) prc10
          have hld12 := hld10.mono (g11.trans g12)
          have hW12 := (g11.trans g12) _ _ hW10
          have gh12 := (g10.trans g11).trans g12
          generalize upd H11 pn (.lst (rn.map V.ref)) = H12 at *
          refine ⟨_, rfl, .inl ⟨rfl, _, SqL.of hpn12⟩, _, rfl, pn, _, _, rfl, rfl, hpn12, (by rw [List.length_map]; (first | lia | omega)), ?_⟩
          refine ⟨pn, pz, rn ++ [ld], rz ++ rc, _, _, _, rfl, same_upd gh12 pnH, ⟨?_, ?_⟩, ⟨?_, ?_⟩⟩
          · rw [upd_same, List.map_append]; rfl
          · have e : (Dn.map (fun p => (p.1, La.clearedM k lead i p.2)) ++ [(i, lead)]).map (·.2) = (Dn.map fun p => La.clearedM k lead i p.2) ++ [lead] := by
              rw [List.map_append, List.map_map]; rfl
            rw [e]
            refine pd_snoc (pd_ir_upd hpn12 prn12 fun ws hw => nn ws (nlen ws hw)) ?_
            show upd H12 pn _ ld = _
            rw [upd_ne (hld12.ne (nn lead llead) hpn12)]; exact hld12
          · rw [upd_ne npz]; exact hW12
          · exact pd_app (pd_ir_upd hpn12 prz12 fun ws hw => nn ws (zlen ws hw)) (pd_ir_upd hpn12 prc12 fun ws hw => nn ws (clen ws hw))
      · have c2 : ¬ 0 < ((Wt.filter fun r => decide (r.getD i 0 ≠ 0)).length : Int) := of_decide_eq_false (Bool.eq_false_iff.mpr c1)
        have ef : Wt.filter (fun r => decide (r.getD i 0 ≠ 0)) = [] := List.eq_nil_of_length_eq_zero (by (first | lia | omega))
        have turn : La.swTurn k i (Dn, Wt) = (Dn, Wt) := by
          unfold La.swTurn
          simp only [ef]
        rw [turn]
        exact ⟨td, tw, rd, rw', _, _, _, rfl, g23, hD3, hW3⟩
    · intro σ H2 hI2_
      refine hide fun _ hG_ => ?_
      obtain ⟨td, tw, rd, rw', o5, o6, o7, rfl, g2, hD, hW⟩ := hI2_
      refine hG_ ?_
      clear hG_
      exact ⟨_, rfl, q td rd H2 g2 hD⟩
  · have c' : ¬ 0 < (Ws.length : Int) := of_decide_eq_false (Bool.eq_false_iff.mpr c)
    have ew : Ws = [] := List.eq_nil_of_length_eq_zero (by (first | lia | omega))
    refine ⟨_, rfl, _, rfl, (by decide), (by decide), ?_⟩
    let Pv17_ : Nat → L2.St → Hp → Prop := fun i σ H' => ∃ o5 o6 o7, σ = [some (.int k), some (.ref t), some (.ref pd), some (.ref pw), some (.int 0), o5, o6, o7] ∧ H' = H1
    refine for_range (lo := 0) (n := (0 : Int).toNat) Pv17_ ⟨none, none, none, rfl, rfl⟩ ?_ ?_
    · intro i σ H2 hi
      exact absurd hi (Nat.not_lt_zero i)
    · intro σ H2 hI2_
      refine hide fun _ hG_ => ?_
      obtain ⟨o5, o6, o7, rfl, rfl⟩ := hI2_
      refine hG_ ?_
      clear hG_
      refine ⟨_, rfl, q pd [] _ g1 ?_⟩
      rw [ew, La.swTo_nil]
      exact ⟨hpd1, .nil⟩
/-! over_lead -/
inductive Sp_over_lead (vs : List V) (H : Hp) (Q : VK) : Prop where
  | mk (k : Int) (p : Nat) (ws : List Int) (a : Addr) (h0_ : vs = [.int k, .ref a]) (h1_ : KindOk k) (h2_ : IRow H ws a) (h3_ : p < ws.length) (h4_ : ws.getD p 0 ≠ 0) (h5_ : (∀ j, j < p → ws.getD j 0 = 0)) (h6_ : nnum k (ws.getD p 0) ≠ nnum k 0) (h7_ : (∀ w ∈ ws, Sm 60000000 w)) (h8_ : ws.length < sizeLine) (h9_ : ∀ vs' a' H', Same H H' → H' a' = none → Paired (RN H') (La.overL k (p, ws)) vs' → Q (.ref a') (upd H' a' (.lst vs'))) : Sp_over_lead  vs H Q
noncomputable def sp_over_lead : Sp := fun vs H Q _ => Sp_over_lead  vs H Q
theorem kn_over_lead (D : Df K mg "over_lead" ["kind", "wholes"] s_over_lead) (d_quotient : Kn P w K mg base "quotient" 43 ["kind", "top", "bottom"] sp_quot) : Kn P w K mg base "over_lead" 44 ["kind", "wholes"] sp_over_lead := by
  refine D.kn sc_over_lead (fun vs H Q E h => ?_) (fun f cdv A outer s H vs Q E hr h => ?_)
  · obtain ⟨k, p, ws, a, rfl, _⟩ := h; rfl
  refine hide fun _ hG_ => ?_
  obtain ⟨k, p, ws, a, rfl, hk, ha, hp, hn, hz, ne, sz, hl, q⟩ := h
  refine hG_ ?_
  clear hG_
  refine ⟨_, (pss_cons (ps_set (i := 2) sc_over_lead.nd rfl (by first | exact Or.inl rfl | exact Or.inr rfl) (pe_ix ix_list0 (pe_comp ["whole"] [] [] ⟨rfl, rfl, rfl, rfl, rfl, rfl, by decide +kernel⟩ rfl (pi_list0 (pv 1)) (gown_name (by decide)) fun _ _ _ _ _ _ => ⟨(pg_name (i := 0) (by decide : (["whole"] : List Str).Nodup) rfl (by first | exact Or.inl rfl | exact Or.inr rfl)), (pts_one (pt_cmpR op_ne (pv 0) pe_int (nomark _))), (pv 0)⟩) pe_int (fun _ _ => rfl))) (pss_one (ps_ret (pe_comp ["whole"] ["kind", "lead"] [0, 2] ⟨rfl, rfl, rfl, rfl, rfl, rfl, by decide +kernel⟩ rfl (pi_list0 (pv 1)) (gown_name (by decide)) fun _ _ _ _ _ _ => ⟨(pg_name (i := 0) (by decide : (["whole", "kind", "lead"] : List Str).Nodup) rfl (by first | exact Or.inl rfl | exact Or.inr rfl)), pts_nil, (pe_kn d_quotient (hr.mono (by decide)) rfl (pa_cons (pv 1) (pa_cons (pv 0) (pa_cons (pv 2) pa_nil))))⟩)))), ?_⟩
  refine ⟨_, rfl, a, rfl, ⟨_, SqL.of ha⟩, ?_⟩
  let Pv18_ : Nat → List V → Hp → Prop := fun i ys H' => H' = H ∧ ys = ((ws.take i).filter fun w => decide (w ≠ 0)).map V.int
  refine comp_list (xs := ws.map V.int) Pv18_ ⟨rfl, by simp⟩ ?_ ?_ ?_
  · rintro i ys H' hi ⟨rfl, rfl⟩
    refine ⟨SqL.of ha, ?_⟩
    have h2 := List.length_filter_le (fun w : Int => decide (w ≠ 0)) (ws.take i)
    rw [List.length_take] at h2
    rw [List.length_map]; (first | lia | omega)
  · rintro i v ys H' hv hi ⟨rfl, rfl⟩
    rw [List.getElem?_map] at hv
    refine hide fun _ hG_ => ?_
    obtain ⟨u, hu, rfl⟩ := Option.map_eq_some_iff.mp hv
    refine hG_ ?_
    clear hG_
    refine ⟨_, rfl, rfl, _, rfl, ?_⟩
    refine ite2 (fun c1 => ?_) (fun c1 => ?_)
    · have z : u ≠ 0 := fun z => by rw [z] at c1; exact absurd c1 (by decide)
      refine ⟨_, rfl, nxt hi ⟨rfl, ?_⟩⟩
      rw [La.filter_snoc _ hu, if_pos (decide_eq_true z), List.map_append]; rfl
    · have z : u = 0 := by
        by_cases z : u = 0
        · exact z
        · exact absurd (by have h' : ¬ V.int u = V.int 0 := fun e => z (V.int.inj e)
                           rw [decide_eq_false h']; rfl) c1
      refine nxt hi ⟨rfl, ?_⟩
      rw [La.filter_snoc _ hu, if_neg (show ¬ decide (u ≠ 0) = true from fun h => of_decide_eq_true h z), List.append_nil]
  rintro ys H' ⟨rfl, rfl⟩ pf hpf
  rw [List.length_map, List.take_length]
  have g1 := same_new hpf (.lst ((ws.filter fun w => decide (w ≠ 0)).map V.int))
  refine ⟨pf, _, _, _, rfl, rfl, SqL.of upd_same, atI_nat (j := 0) (by rw [List.getElem?_map, La.first_of hp hz hn]; rfl), ?_⟩
  have ha1 := ha.mono g1
  generalize upd H' pf (.lst ((ws.filter fun w => decide (w ≠ 0)).map V.int)) = H1 at *
  refine ⟨_, rfl, a, rfl, ⟨_, SqL.of ha1⟩, ?_⟩
  let Pv19_ : Nat → List V → Hp → Prop := fun i ys H2 => Same H1 H2 ∧ Paired (RN H2) ((La.overL k (p, ws)).take i) ys
  refine comp_list (xs := ws.map V.int) Pv19_ ⟨Same.refl _, .nil⟩ ?_ ?_ ?_
  · rintro i ys H2 hi ⟨g2, pr⟩
    refine ⟨SqL.of (ha1.mono g2), ?_⟩
    have := pd_len pr
    unfold La.overL at this
    rw [List.length_take, List.length_map] at this
    rw [List.length_map] at hi
    show ys.length < sizeLine
    have e : (p, ws).2 = ws := rfl
    rw [e] at this
    (first | lia | omega)
  · rintro i v ys H2 hv hi ⟨g2, pr⟩
    rw [List.getElem?_map] at hv
    refine hide fun _ hG_ => ?_
    obtain ⟨u, hu, rfl⟩ := Option.map_eq_some_iff.mp hv
    refine hG_ ?_
    clear hG_
    first | refine gyes ?_ | refine tyes ?_
    refine ⟨_, rfl, _, rfl, _, rfl, k, u, ws.getD p 0, rfl, hk, ne, sz u (List.mem_of_getElem? hu), getD_sz sz p, fun v3 H3 g3 r3 => nxt hi ⟨g2.trans g3, ?_⟩⟩
    have e : (La.overL k (p, ws))[i]? = some (ndiv k (nnum k u) (nnum k (ws.getD p 0))) := by unfold La.overL; rw [List.getElem?_map]; show Option.map _ ws[i]? = _; rw [hu]; rfl
    rw [take_snoc e]
    exact pd_snoc (pd_rn g3 pr) r3
  · rintro ys H2 ⟨g2, pr⟩ a' ha'
    rw [List.length_map, List.take_of_length_le (by unfold La.overL; rw [List.length_map]; exact Nat.le_refl _)] at pr
    exact q ys a' H2 (g1.trans g2) ha' pr
/-! reduced -/
theorem overL_sz {k : Int} (hk : KindOk k) {b p : Nat} {ws : List Int} (h7 : 7 ≤ b) (ne : nnum k (ws.getD p 0) ≠ nnum k 0) (sz : ∀ w ∈ ws, Sm b w) : ∀ x ∈ La.overL k (p, ws), nsm (b + b) x := fun x hx => by
  unfold La.overL at hx
  obtain ⟨w, hw, rfl⟩ := List.mem_map.mp hx
  exact ndiv_sm hk (La.nnum_ok hk _) (La.nnum_ok hk _) ne (nsm_num hk (sz w hw) h7) (nsm_num hk (getD_sz sz p) h7) h7
noncomputable def redB (n m : Nat) : Nat := ((n + 2) * m + 1) * 2 ^ n
inductive Sp_reduced (vs : List V) (H : Hp) (Q : VK) : Prop where
  | mk (k : Int) (M : List (List Nb)) (n m : Nat) (t : Addr) (ras : List Addr) (h0_ : vs = [.int k, .ref t]) (h1_ : KindOk k) (h2_ : TabAt H M t ras) (h3_ : La.OkM k n M) (h4_ : szM m M) (h5_ : 7 ≤ m) (h6_ : redB n m ≤ 60000000) (h7_ : n < sizeLine) (h8_ : M.length ≤ 8000000) (h9_ : ∀ R ls top rs H', Same H H' → NewT H H' R top rs → (∀ (F : Type) [Lean.Grind.Field F] (φ : La.Kf k F), La.RedOf φ n M R ls) → szM (2 * redB n m) R → R.length ≤ M.length → Q (.ref top) H') : Sp_reduced  vs H Q
noncomputable def sp_reduced : Sp := fun vs H Q _ => Sp_reduced  vs H Q
theorem kn_reduced (D : Df K mg "reduced" ["kind", "rows"] s_reduced) (d_scaled : Kn P w K mg base "scaled" 41 ["kind", "row"] sp_scaled) (d_swept : Kn P w K mg base "swept" 43 ["kind", "rows"] sp_swept) (d_over_lead : Kn P w K mg base "over_lead" 44 ["kind", "wholes"] sp_over_lead) : Kn P w K mg base "reduced" 45 ["kind", "rows"] sp_reduced := by
  refine D.kn sc_reduced (fun vs H Q E h => ?_) (fun f cdv A outer s H vs Q E hr h => ?_)
  · obtain ⟨k, M, n, m, t, ras, rfl, _⟩ := h; rfl
  refine hide fun _ hG_ => ?_
  obtain ⟨k, M, n, m, t, ras, rfl, hk, hT, oM, sM, m7, hb, nz, mz, q⟩ := h
  refine hG_ ?_
  clear hG_
  have lras := pd_len hT.2
  have szl : sizeLine = 16777216 := by decide
  have hb1 : (n + 2) * m ≤ 60000000 ∧ 7 ≤ (n + 2) * m ∧ (n + 2) * m ≤ redB n m ∧ 1 ≤ redB n m := by
    have h1 : 1 ≤ 2 ^ n := Nat.one_le_two_pow
    have h2 : ((n + 2) * m + 1) * 1 ≤ ((n + 2) * m + 1) * 2 ^ n := Nat.mul_le_mul_left _ h1
    have h3 : 1 * m ≤ (n + 2) * m := Nat.mul_le_mul_right _ (by (first | lia | omega))
    unfold redB at *
    (first | lia | omega)
  refine hide fun _ hG_ => ?_
  obtain ⟨b1, b2, b3, b4⟩ := hb1
  refine hG_ ?_
  clear hG_
  refine ⟨_, (pss_cons (ps_setC (i := 2) sc_reduced.nd rfl rfl ["row"] ["kind"] [0] ⟨rfl, rfl, rfl, rfl, rfl, rfl, by decide +kernel⟩ rfl (pi_list0 (pv 1)) (gown_name (by decide)) fun _ _ _ _ _ _ => ⟨(pg_name (i := 0) (by decide : (["row", "kind"] : List Str).Nodup) rfl (by first | exact Or.inl rfl | exact Or.inr rfl)), pts_nil, (pe_ix ix_tup0 (pe_kn d_scaled (hr.mono (by decide)) rfl (pa_cons (pv 1) (pa_cons (pv 0) pa_nil))) pe_int (fun _ _ => rfl))⟩) (pss_one (ps_ret (pe_comp ["row"] ["kind"] [0] ⟨rfl, rfl, rfl, rfl, rfl, rfl, by decide +kernel⟩ rfl (pi_list0 (pe_kn d_swept (hr.mono (by decide)) rfl (pa_cons (pv 0) (pa_cons (pv 2) pa_nil)))) (gown_name (by decide)) fun _ _ _ _ _ _ => ⟨(pg_name (i := 0) (by decide : (["row", "kind"] : List Str).Nodup) rfl (by first | exact Or.inl rfl | exact Or.inr rfl)), pts_nil, (pe_kn d_over_lead (hr.mono (by decide)) rfl (pa_cons (pv 1) (pa_cons (pv 0) pa_nil)))⟩)))), ?_⟩
  refine ⟨_, rfl, t, rfl, ⟨_, SqL.of hT.1⟩, ?_⟩
  let Pv20_ : Nat → List V → Hp → Prop := fun i ys H' => ∃ Ws rl, ys = rl.map V.ref ∧ Same H H' ∧ Paired (IRow H') Ws rl ∧ Paired (fun xs ws => (∃ b, La.Scl k xs ws b) ∧ ∀ w ∈ ws, Sm ((n + 2) * m) w) (M.take i) Ws
  refine comp_list (xs := ras.map V.ref) Pv20_ ⟨[], [], rfl, Same.refl _, .nil, .nil⟩ ?_ ?_ ?_
  · intro i ys H' hi hI4_
    refine hide fun _ hG_ => ?_
    obtain ⟨Ws, rl, rfl, g, pr, ps⟩ := hI4_
    refine hG_ ?_
    clear hG_
    refine ⟨SqL.of (g _ _ hT.1), ?_⟩
    have h1 := pd_len pr
    have h2 := pd_len ps
    rw [List.length_take] at h2
    rw [List.length_map]; (first | lia | omega)
  · intro i v ys H' hv hi hI6_
    refine hide fun _ hG_ => ?_
    obtain ⟨Ws, rl, rfl, g, pr, ps⟩ := hI6_
    refine hG_ ?_
    clear hG_
    refine hide fun _ hG_ => ?_
    obtain ⟨xs, a, hx, ha, rfl, hrow⟩ := (hT.mono g).row hv
    refine hG_ ?_
    clear hG_
    obtain ⟨lx, ox⟩ := oM xs (List.mem_of_getElem? hx)
    first | refine gyes ?_ | refine tyes ?_
    refine ⟨_, rfl, _, rfl, k, xs, a, m, rfl, hk, hrow, ox, sM xs (List.mem_of_getElem? hx), m7, by rw [lx]; exact b1, fun p H2 g2 sc => ?_⟩
    refine hide fun _ hG_ => ?_
    obtain ⟨l, ws, b, hp, hl, sc, sb, sw⟩ := sc
    refine hG_ ?_
    clear hG_
    rw [lx] at sw
    refine ⟨p, _, _, _, rfl, rfl, SqT.of hp, rfl, nxt hi ⟨Ws ++ [ws], rl ++ [l], by rw [List.map_append]; rfl, g.trans g2, pd_snoc (pd_ir g2 pr) hl, ?_⟩⟩
    rw [take_snoc hx]
    exact pd_snoc ps ⟨⟨b, sc⟩, sw⟩
  intro ys H' hI2_ pw hpw
  refine hide fun _ hG_ => ?_
  obtain ⟨Ws, rl, rfl, g, pr, ps⟩ := hI2_
  refine hG_ ?_
  clear hG_
  rw [List.length_map, List.take_of_length_le (by (first | lia | omega))] at ps
  have lps := pd_len ps
  have g1 := g.trans (same_new hpw (.lst (rl.map V.ref)))
  have hpw1 : upd H' pw (.lst (rl.map V.ref)) pw = some (.lst (rl.map V.ref)) := upd_same
  have pr1 := pd_ir (same_new hpw (.lst (rl.map V.ref))) pr
  generalize upd H' pw (.lst (rl.map V.ref)) = H1 at *
  have wl : ∀ r ∈ Ws, r.length = n := fun r hr => by
    refine hide fun _ hG_ => ?_
    obtain ⟨xs, hx, ⟨b, sc⟩, _⟩ := pd_mem ps hr
    refine hG_ ?_
    clear hG_
    rw [sc.len, (oM xs hx).1]
  have ws' : ∀ r ∈ Ws, ∀ w ∈ r, Sm ((n + 2) * m) w := fun r hr => by
    refine hide fun _ hG_ => ?_
    obtain ⟨xs, hx, _, h⟩ := pd_mem ps hr
    refine hG_ ?_
    clear hG_
    exact h
  refine ⟨_, rfl, _, rfl, k, Ws, n, (n + 2) * m, pw, rl, rfl, hk, ⟨hpw1, pr1⟩, wl, nz, by (first | lia | omega), ws', b2, hb, fun pp rs H2 g2 hI => ?_⟩
  refine ⟨pp, rfl, ⟨_, SqL.of hI.1⟩, ?_⟩
  have red : ∀ (F : Type) [Lean.Grind.Field F] (φ : La.Kf k F), La.RedOf φ n M (La.redM k n Ws) (La.leadsM k n Ws) := fun F _ φ => La.redM_of φ hk oM lps.symm fun i r ws h1 h2 => (pd_get ps h1 h2).1
  have fine := La.Fine.to (k := k) hk.lt.1 wl n
  have szs := sz_to hk b2 wl ws' n
  have lens := La.swTo_len (k := k) Ws n
  refine hide fun _ hG_ => ?_
  obtain ⟨F0, i0, d0, ⟨φ0⟩⟩ := La.field_of hk
  refine hG_ ?_
  clear hG_
  have lead : ∀ p ∈ (La.swTo k Ws n).1, p.1 < n ∧ p.2.length = n ∧ p.2.getD p.1 0 ≠ 0 ∧ (∀ j, j < p.1 → p.2.getD j 0 = 0) ∧ nnum k (p.2.getD p.1 0) ≠ nnum k 0 := fun p hp => by
    refine hide fun _ hG_ => ?_
    obtain ⟨h1, h2, h3, h4⟩ := La.swept_lead φ0 hk.lt.1 wl hp
    refine hG_ ?_
    clear hG_
    refine ⟨h1, h2, h3, h4, La.nnum_ne φ0 fun z => h3 ?_⟩
    exact (La.fv_zero φ0 (fine.df p hp) p.1).mp z
  have erB : ((n + 2) * m + 1) * 2 ^ n = redB n m := rfl
  rw [erB] at szs
  generalize hS : (La.swTo k Ws n).1 = Dn at *
  have lrs := pd_len hI.2
  rw [List.length_map] at lrs
  have eR : La.redM k n Ws = Dn.map (La.overL k) := by unfold La.redM; rw [hS]
  let Pv21_ : Nat → List V → Hp → Prop := fun i ys H3 => ∃ ras2, ys = ras2.map V.ref ∧ Grow H2 H3 ((La.redM k n Ws).take i) ras2
  refine comp_list (xs := rs.map V.ref) Pv21_ ⟨[], rfl, Grow.nil H2 (Same.refl H2)⟩ ?_ ?_ ?_
  · intro i ys H3 hi hI4_
    refine hide fun _ hG_ => ?_
    obtain ⟨ras2, rfl, G⟩ := hI4_
    refine hG_ ?_
    clear hG_
    refine ⟨SqL.of (G.same _ _ hI.1), ?_⟩
    have := pd_len G.rows
    rw [List.length_take, eR, List.length_map] at this
    rw [List.length_map]; (first | lia | omega)
  · intro i v ys H3 hv hi hI6_
    refine hide fun _ hG_ => ?_
    obtain ⟨ras2, rfl, G⟩ := hI6_
    refine hG_ ?_
    clear hG_
    refine hide fun _ hG_ => ?_
    obtain ⟨ws, a, hw, ha, rfl, hrow⟩ := (hI.mono G.same).row hv
    refine hG_ ?_
    clear hG_
    rw [List.getElem?_map] at hw
    refine hide fun _ hG_ => ?_
    obtain ⟨p, hp, rfl⟩ := Option.map_eq_some_iff.mp hw
    refine hG_ ?_
    clear hG_
    have hm := List.mem_of_getElem? hp
    refine hide fun _ hG_ => ?_
    obtain ⟨l1, l2, l3, l4, l5⟩ := lead p hm
    refine hG_ ?_
    clear hG_
    first | refine gyes ?_ | refine tyes ?_
    refine ⟨_, rfl, _, rfl, k, p.1, p.2, a, rfl, hk, hrow, by (first | lia | omega), l3, l4, l5, fun w hw => (szs.1 p (by rw [hS]; exact hm) w hw).mono (by (first | lia | omega)), by (first | lia | omega), fun vs' a' H4 g4 ha' pr4 => nxt hi ⟨ras2 ++ [a'], by rw [List.map_append]; rfl, ?_⟩⟩
    have e : (La.redM k n Ws)[i]? = some (La.overL k (p.1, p.2)) := by rw [eR, List.getElem?_map, hp]; rfl
    rw [take_snoc e]
    exact (G.mono g4).snoc ha' pr4
  intro ys H3 hI2_ top ht
  refine hide fun _ hG_ => ?_
  obtain ⟨ras2, rfl, G⟩ := hI2_
  refine hG_ ?_
  clear hG_
  rw [List.length_map, List.take_of_length_le (by rw [eR, List.length_map]; (first | lia | omega))] at G
  have N := G.done ht
  refine q (La.redM k n Ws) (La.leadsM k n Ws) top ras2 _ ((g1.trans g2).trans (G.same.trans (same_new ht _))) ⟨N.tab, (g1.trans g2).none N.ft, fun r hr => (g1.trans g2).none (N.fr r hr), N.nd, N.nt⟩ red (fun r hr x hx => ?_) (by rw [eR, List.length_map]; (first | lia | omega))
  rw [eR] at hr
  refine hide fun _ hG_ => ?_
  obtain ⟨p, hp, rfl⟩ := List.mem_map.mp hr
  refine hG_ ?_
  clear hG_
  refine hide fun _ hG_ => ?_
  obtain ⟨l1, l2, l3, l4, l5⟩ := lead p hp
  refine hG_ ?_
  clear hG_
  have := overL_sz hk (b := redB n m) (by (first | lia | omega)) l5 (fun w hw => (szs.1 p (by rw [hS]; exact hp) w hw).mono (by (first | lia | omega))) x hx
  exact this.mono (by (first | lia | omega))
/-! unit -/
inductive Sp_unit (vs : List V) (H : Hp) (Q : VK) : Prop where
  | mk (k : Int) (n : Nat) (h0_ : vs = [.int k, .int (n : Int)]) (h1_ : n ≤ 1000) (h2_ : ∀ t ras H', Same H H' → NewT H H' (La.unitM k n) t ras → Q (.ref t) H') : Sp_unit  vs H Q
noncomputable def sp_unit : Sp := fun vs H Q _ => Sp_unit  vs H Q
theorem kn_unit (D : Df K mg "unit" ["kind", "size"] s_unit) (d_number : Kn P w K mg base "number" 1 ["kind", "whole"] sp_number) (m_range : mg "range" = none) (m_int : mg "int" = none) : Kn P w K mg base "unit" 2 ["kind", "size"] sp_unit := by
  refine D.kn sc_unit (fun vs H Q E h => ?_) (fun f cdv A outer s H vs Q E hr h => ?_)
  · obtain ⟨k, n, rfl, _⟩ := h; rfl
  refine hide fun _ hG_ => ?_
  obtain ⟨k, n, rfl, hn, q⟩ := h
  refine hG_ ?_
  clear hG_
  have szl : sizeLine = 16777216 := by decide
  refine ⟨_, (pss_one (ps_ret (pe_comp ["row"] ["size", "kind"] [1, 0] ⟨rfl, rfl, rfl, rfl, rfl, rfl, by decide +kernel⟩ rfl (pi_range1 rfl m_range (pa_cons (pv 1) pa_nil)) (gown_name (by decide)) fun _ _ _ _ _ _ => ⟨(pg_name (i := 0) (by decide : (["row", "size", "kind"] : List Str).Nodup) rfl (by first | exact Or.inl rfl | exact Or.inr rfl)), pts_nil, (pe_comp ["column"] ["kind", "row"] [2, 0] ⟨rfl, rfl, rfl, rfl, rfl, rfl, by decide +kernel⟩ rfl (pi_range1 rfl m_range (pa_cons (pv 1) pa_nil)) (gown_name (by decide)) fun _ _ _ _ _ _ => ⟨(pg_name (i := 0) (by decide : (["column", "kind", "row"] : List Str).Nodup) rfl (by first | exact Or.inl rfl | exact Or.inr rfl)), pts_nil, (pe_kn d_number (hr.mono (by decide)) rfl (pa_cons (pv 1) (pa_cons (pe_callTy call_int1 rfl m_int bb_int (pa_cons (pe_cmpR op_eq (pv 2) (pv 0) (nomark _)) pa_nil)) pa_nil)))⟩)⟩))), ?_⟩
  have lT : (La.unitM k n).length = n := by unfold La.unitM; simp
  refine ⟨_, rfl, n, rfl, (by (first | lia | omega)), (by (first | lia | omega)), ?_⟩
  rw [Int.toNat_natCast]
  let Pv22_ : Nat → List V → Hp → Prop := fun i ys H' => ∃ ras2, ys = ras2.map V.ref ∧ Grow H H' ((La.unitM k n).take i) ras2
  refine comp_range (lo := 0) (n := n) Pv22_ ⟨[], rfl, Grow.nil H (Same.refl H)⟩ ?_ ?_ ?_
  · intro i ys H' hi hI4_
    refine hide fun _ hG_ => ?_
    obtain ⟨ras2, rfl, G⟩ := hI4_
    refine hG_ ?_
    clear hG_
    have := pd_len G.rows
    rw [List.length_take] at this
    rw [List.length_map]; (first | lia | omega)
  · intro i ys H' hi hI4_
    refine hide fun _ hG_ => ?_
    obtain ⟨ras2, rfl, G⟩ := hI4_
    refine hG_ ?_
    clear hG_
    first | refine gyes ?_ | refine tyes ?_
    refine ⟨_, rfl, n, rfl, (by (first | lia | omega)), (by (first | lia | omega)), ?_⟩
    rw [Int.toNat_natCast]
    have lR : (La.unitRow k n i).length = n := by unfold La.unitRow; simp
    let Pv23_ : Nat → List V → Hp → Prop := fun j ys' H6 => Same H' H6 ∧ Paired (RN H6) ((La.unitRow k n i).take j) ys'
    refine comp_range (lo := 0) (n := n) Pv23_ ⟨Same.refl _, .nil⟩ ?_ ?_ ?_
    · rintro j ys' H6 hj ⟨g6, pr6⟩
      have := pd_len pr6
      rw [List.length_take] at this
      (first | lia | omega)
    · rintro j ys' H6 hj ⟨g6, pr6⟩
      first | refine gyes ?_ | refine tyes ?_
      refine ⟨_, rfl, _, rfl, _, rfl, rfl, .inr ⟨_, rfl, k, _, rfl, fun v H7 g7 r7 => nxt hj ⟨g6.trans g7, ?_⟩⟩⟩
      have e : (La.unitRow k n i)[j]? = some (if i = j then nnum k 1 else nnum k 0) := by unfold La.unitRow; rw [List.getElem?_map, List.getElem?_range hj]; rfl
      rw [take_snoc e]
      refine pd_snoc (pd_rn g7 pr6) ?_
      by_cases c : i = j
      · rw [if_pos c]
        rw [c, decide_eq_true rfl] at r7
        exact r7
      · rw [if_neg c]
        rw [decide_eq_false (fun z => c (by have := V.int.inj z; (first | lia | omega)))] at r7
        exact r7
    · rintro ys' H6 ⟨g6, pr6⟩ p hp
      rw [List.take_of_length_le (by (first | lia | omega))] at pr6
      refine nxt hi ⟨ras2 ++ [p], by rw [List.map_append]; rfl, ?_⟩
      rw [take_snoc (La.unitM_get hi)]
      exact (G.mono g6).snoc hp pr6
  · intro ys H' hI2_ t ht
    refine hide fun _ hG_ => ?_
    obtain ⟨ras2, rfl, G⟩ := hI2_
    refine hG_ ?_
    clear hG_
    rw [List.take_of_length_le (by (first | lia | omega))] at G
    exact q t ras2 _ (G.same.trans (same_new ht _)) (G.done ht)
/-! abreast -/
inductive Sp_abreast (vs : List V) (H : Hp) (Q : VK) : Prop where
  | mk (A B : List (List Nb)) (n h : Nat) (ta tb : Addr) (ra rb : List Addr) (h0_ : vs = [.ref ta, .ref tb]) (h1_ : TabAt H A ta ra) (h2_ : TabAt H B tb rb) (h3_ : A.length = B.length) (h4_ : (∀ r ∈ A, r.length = n)) (h5_ : (∀ r ∈ B, r.length = h)) (h6_ : n + h ≤ sizeLine) (h7_ : A.length < sizeLine) (h8_ : ∀ p ras H', Same H H' → NewT H H' (augM A B) p ras → Q (.ref p) H') : Sp_abreast  vs H Q
noncomputable def sp_abreast : Sp := fun vs H Q _ => Sp_abreast  vs H Q
theorem kn_abreast (D : Df K mg "abreast" ["one", "other"] s_abreast) (m_zip : mg "zip" = none) : Kn P w K mg base "abreast" 1 ["one", "other"] sp_abreast := by
  refine D.kn sc_abreast (fun vs H Q E h => ?_) (fun f cdv A' outer s' H vs Q E hr h => ?_)
  · obtain ⟨A, B, n, h, ta, tb, ra, rb, rfl, _⟩ := h; rfl
  refine hide fun _ hG_ => ?_
  obtain ⟨A, B, n, h, ta, tb, ra, rb, rfl, hA, hB, lAB, nA, nB, nh, lA, q⟩ := h
  refine hG_ ?_
  clear hG_
  have szl : sizeLine = 16777216 := by decide
  refine ⟨_, (pss_one (ps_ret (pe_comp ["left", "right"] [] [] ⟨rfl, rfl, rfl, rfl, rfl, rfl, by decide +kernel⟩ rfl (pi_zip0 rfl m_zip (pa_cons (pv 0) (pa_cons (pv 1) pa_nil))) (gown_tup (gowns_cons (gown_name (by decide)) gmono_name (gowns_cons (gown_name (by decide)) gmono_name gowns_nil))) fun _ _ _ _ _ _ => ⟨(pg_tup0 2 rfl (pgs_cons (pg_name (i := 0) (by decide : (["left", "right"] : List Str).Nodup) rfl (by first | exact Or.inl rfl | exact Or.inr rfl)) (pgs_cons (pg_name (i := 1) (by decide : (["left", "right"] : List Str).Nodup) rfl (by first | exact Or.inl rfl | exact Or.inr rfl)) pgs_nil))), pts_nil, (pe_op op_cat (pv 0) (pv 1))⟩))), ?_⟩
  have la := pd_len hA.2
  have lb := pd_len hB.2
  refine ⟨_, rfl, _, rfl, ta, tb, _, _, rfl, SqL.of hA.1, SqL.of hB.1, ?_⟩
  let Pv24_ : Nat → List V → Hp → Prop := fun i ys H' => ∃ ras, ys = ras.map V.ref ∧ Grow H H' ((augM A B).take i) ras
  refine comp_zip (xs := ra.map V.ref) (zs := rb.map V.ref) (by rw [List.length_map, List.length_map]; (first | lia | omega)) Pv24_ ⟨[], rfl, Grow.nil H (Same.refl H)⟩ ?_ ?_ ?_
  · intro i ys H' hi hI4_
    refine hide fun _ hG_ => ?_
    obtain ⟨ras, rfl, G⟩ := hI4_
    refine hG_ ?_
    clear hG_
    refine ⟨SqL.of (G.same _ _ hA.1), SqL.of (G.same _ _ hB.1), ?_⟩
    have := pd_len G.rows
    rw [List.length_take] at this
    rw [List.length_map] at hi ⊢; (first | lia | omega)
  · intro i x z T ys H' hx' hz' hi hT hI10_
    refine hide fun _ hG_ => ?_
    obtain ⟨ras, rfl, G⟩ := hI10_
    refine hG_ ?_
    clear hG_
    have g' := same_new hT (.tup [x, z])
    have G1 := G.mono g'
    refine hide fun _ hG_ => ?_
    obtain ⟨row, a, hrow, ha, rfl, hR⟩ := (hA.mono G1.same).row hx'
    refine hG_ ?_
    clear hG_
    refine hide fun _ hG_ => ?_
    obtain ⟨row2, a2, hrow2, ha2, rfl, hR2⟩ := (hB.mono G1.same).row hz'
    refine hG_ ?_
    clear hG_
    refine hide fun _ hG_ => ?_
    obtain ⟨us1, hu1, pu1, lu1⟩ := hR.len
    refine hG_ ?_
    clear hG_
    refine hide fun _ hG_ => ?_
    obtain ⟨us2, hu2, pu2, lu2⟩ := hR2.len
    refine hG_ ?_
    clear hG_
    have r1 := nA _ (List.mem_of_getElem? hrow)
    have r2 := nB _ (List.mem_of_getElem? hrow2)
    refine ⟨T, _, rfl, SqT.of upd_same, rfl, _, _, rfl, _, _, rfl, rfl, ?_⟩
    generalize upd H' T (.tup [.ref a, .ref a2]) = H1 at *
    first | refine gyes ?_ | refine tyes ?_
    refine ⟨_, rfl, _, rfl, a, a2, _, _, rfl, rfl, hu1, hu2, (by rw [lu1, lu2, r1, r2]; exact nh), fun p hp => ?_⟩
    refine nxt hi ⟨ras ++ [p], by rw [List.map_append]; rfl, ?_⟩
    rw [take_snoc (augM_get hrow hrow2)]
    exact G1.snoc hp (pd_app pu1 pu2)
  · intro ys H' hI2_ pb hpb
    refine hide fun _ hG_ => ?_
    obtain ⟨ras, rfl, G⟩ := hI2_
    refine hG_ ?_
    clear hG_
    rw [List.length_map, List.take_of_length_le (by unfold augM; rw [List.length_zipWith]; (first | lia | omega))] at G
    have N := G.done hpb
    have g1 := G.same.trans (same_new hpb (.lst (ras.map V.ref)))
    exact q pb ras _ g1 N
/-! back -/
noncomputable def sp_back (C : Addr) : Sp := fun vs H Q E => ∃ (k : Int) (M : List (List Nb)) (n m : Nat) (t : Addr) (ras : List Addr), vs = [.int k, .ref t] ∧ KindOk k ∧ TabAt H M t ras ∧ TOk k n n m M ∧ n ≤ 1000 ∧ 7 ≤ m ∧ redB (n + n) m ≤ 60000000 ∧
  ∀ R ls H', Same H H' → (∀ (F : Type) [Lean.Grind.Field F] (φ : La.Kf k F), La.RedOf φ (n + n) (La.besideM k n M) R ls) → szM (2 * redB (n + n) m) R → ((R.map (List.take n) ≠ La.unitM k n → E (.ref C) none H') ∧ (R.map (List.take n) = La.unitM k n → ∀ t' ras' H2, Same H' H2 → NewT H' H2 (R.map (List.drop n)) t' ras' → Q (.ref t') H2))
theorem kn_back {C : Addr} (c_NoBack : Ec K mg "NoBack" C) (D : Df K mg "back" ["kind", "table"] s_back) (d_unit : Kn P w K mg base "unit" 2 ["kind", "size"] sp_unit) (d_abreast : Kn P w K mg base "abreast" 1 ["one", "other"] sp_abreast) (d_reduced : Kn P w K mg base "reduced" 45 ["kind", "rows"] sp_reduced) (m_len : mg "len" = none) : Kx P w K mg base "back" 46 ["kind", "table"] (sp_back C) := by
  refine D.kx sc_back (fun vs H Q E h => ?_) (fun f cdv A outer s H vs Q E hr h => ?_)
  · obtain ⟨k, M, n, m, t, ras, rfl, _⟩ := h; rfl
  refine hide fun _ hG_ => ?_
  obtain ⟨k, M, n, m, t, ras, rfl, hk, hT, oM, n1000, m7, hb, q⟩ := h
  refine hG_ ?_
  clear hG_
  have szl : sizeLine = 16777216 := by decide
  refine ⟨_, (pss_cons (PS.nox (ps_set (i := 2) sc_back.nd rfl (by first | exact Or.inl rfl | exact Or.inr rfl) (pe_callB call_len0 rfl m_len bb_len (pa_cons (pv 1) pa_nil)))) (pss_cons (PS.nox (ps_set (i := 3) sc_back.nd rfl (by first | exact Or.inl rfl | exact Or.inr rfl) (pe_kn d_unit (hr.mono (by decide)) rfl (pa_cons (pv 0) (pa_cons (pv 2) pa_nil))))) (pss_cons (PS.nox (ps_set (i := 4) sc_back.nd rfl (by first | exact Or.inl rfl | exact Or.inr rfl) (pe_kn d_reduced (hr.mono (by decide)) rfl (pa_cons (pv 0) (pa_cons (pe_kn d_abreast (hr.mono (by decide)) rfl (pa_cons (pv 1) (pa_cons (pv 3) pa_nil))) pa_nil))))) (pss_cons (ps_if (PT.nox (pt_cmpR (op_neD hr) (pe_comp ["row"] ["size"] [2] ⟨rfl, rfl, rfl, rfl, rfl, rfl, by decide +kernel⟩ rfl (pi_list0 (pv 4)) (gown_name (by decide)) fun _ _ _ _ _ _ => ⟨(pg_name (i := 0) (by decide : (["row", "size"] : List Str).Nodup) rfl (by first | exact Or.inl rfl | exact Or.inr rfl)), pts_nil, (pe_slice sl_list0 (pv 0) po_none (po_some (pv 1)))⟩) (pv 3) (nomark _))) (pss_one (ps_raise c_NoBack rfl rfl raises_of (pa_cons pe_str pa_nil))) pss_nil) (pss_one (PS.nox (ps_ret (pe_comp ["row"] ["size"] [2] ⟨rfl, rfl, rfl, rfl, rfl, rfl, by decide +kernel⟩ rfl (pi_list0 (pv 4)) (gown_name (by decide)) fun _ _ _ _ _ _ => ⟨(pg_name (i := 0) (by decide : (["row", "size"] : List Str).Nodup) rfl (by first | exact Or.inl rfl | exact Or.inr rfl)), pts_nil, (pe_slice sl_list0 (pv 0) (po_some (pv 1)) po_none)⟩)))))))), ?_⟩
  have lr := pd_len hT.2
  rw [oM.len] at lr
  refine ⟨_, rfl, t, _, rfl, .inl (SqL.of hT.1), ?_⟩
  rw [List.length_map, ← lr]
  refine ⟨_, rfl, _, rfl, k, n, rfl, n1000, fun t1 r1 H1 g1 N1 => ?_⟩
  have oU := unit_tok hk n
  refine ⟨_, rfl, _, rfl, _, rfl, M, La.unitM k n, n, n, t, t1, ras, r1, rfl, hT.mono g1, N1.tab, (by rw [oM.len, oU.len]), (fun r hr => (oM.ok r hr).1), (fun r hr => (oU.ok r hr).1), (by (first | lia | omega)), (by rw [oM.len]; (first | lia | omega)), fun t2 r2 H2 g2 N2 => ?_⟩
  have oB := augM_tok oM (oU.up m7)
  refine ⟨k, augM M (La.unitM k n), n + n, m, t2, r2, rfl, hk, N2.tab, oB.ok, oB.sz, m7, hb, (by (first | lia | omega)), (by rw [oB.len]; (first | lia | omega)), fun R ls t3 r3 H3 g3 N3 red sz lR => ?_⟩
  rw [oB.len] at lR
  have g13 := (g1.trans g2).trans g3
  have l3 := pd_len N3.tab.2
  have U3 := N1.tab.mono (g2.trans g3)
  have oR : La.OkM k (n + n) R := by
    refine hide fun _ hG_ => ?_
    obtain ⟨F0, i0, d0, ⟨φ0⟩⟩ := La.field_of hk
    refine hG_ ?_
    clear hG_
    exact (red F0 φ0).ok
  clear N1 N2 g1 g2 g3
  -- the left halves
  refine ⟨_, rfl, t3, rfl, ⟨_, SqL.of N3.tab.1⟩, ?_⟩
  let Pv25_ : Nat → List V → Hp → Prop := fun i ys H' => ∃ ras2, ys = ras2.map V.ref ∧ Grow H3 H' ((R.map (List.take n)).take i) ras2
  refine comp_list (xs := r3.map V.ref) Pv25_ ⟨[], rfl, Grow.nil H3 (Same.refl H3)⟩ ?_ ?_ ?_
  · intro i ys H' hi hI4_
    refine hide fun _ hG_ => ?_
    obtain ⟨ras2, rfl, G⟩ := hI4_
    refine hG_ ?_
    clear hG_
    refine ⟨SqL.of (G.same _ _ N3.tab.1), ?_⟩
    have := pd_len G.rows
    rw [List.length_take, List.length_map] at this
    rw [List.length_map]; (first | lia | omega)
  · intro i v ys H' hv hi hI6_
    refine hide fun _ hG_ => ?_
    obtain ⟨ras2, rfl, G⟩ := hI6_
    refine hG_ ?_
    clear hG_
    refine hide fun _ hG_ => ?_
    obtain ⟨row, a, hx, ha, rfl, hrow⟩ := (N3.tab.mono G.same).row hv
    refine hG_ ?_
    clear hG_
    refine hide fun _ hG_ => ?_
    obtain ⟨us, hus, pus, lus⟩ := hrow.len
    refine hG_ ?_
    clear hG_
    first | refine gyes ?_ | refine tyes ?_
    refine ⟨_, rfl, _, rfl, _, rfl, a, _, rfl, SqL.of hus, fun p hp => ?_⟩
    rw [cutTo]
    refine nxt hi ⟨ras2 ++ [p], by rw [List.map_append]; rfl, ?_⟩
    have e : (R.map (List.take n))[i]? = some (row.take n) := by rw [List.getElem?_map, hx]; rfl
    rw [take_snoc e]
    exact G.snoc hp (pd_takeN pus n)
  intro ys H4 hI2_ pl hpl
  refine hide fun _ hG_ => ?_
  obtain ⟨ras2, rfl, G⟩ := hI2_
  refine hG_ ?_
  clear hG_
  rw [List.length_map, List.take_of_length_le (by rw [List.length_map]; (first | lia | omega))] at G
  have N4 := G.done hpl
  have g4 := G.same.trans (same_new hpl (.lst (ras2.map V.ref)))
  generalize upd H4 pl (.lst (ras2.map V.ref)) = H5 at *
  have U5 := U3.mono g4
  refine ⟨_, rfl, tabD _, tabD _, N4.tab.rp, U5.rp, tabD_lay _, tabD_lay _, Nat.le_trans (Nat.min_le_left _ _) (Nat.le_trans (tabD_depth _) (by decide)), _, rfl, ?_⟩
  rw [tabD_eqv]
  obtain ⟨q1, q2⟩ := q R ls H5 (g13.trans g4) red sz
  refine ite2 (fun c1 => ?_) (fun c1 => ?_)
  · refine ⟨(by show 1 ≤ sizeLine; decide), q1 fun e => ?_⟩
    rw [decide_eq_true e] at c1; exact absurd c1 (by decide)
  have eU : R.map (List.take n) = La.unitM k n := by
    by_cases e : R.map (List.take n) = La.unitM k n
    · exact e
    · rw [decide_eq_false e] at c1; exact absurd rfl c1
  have T5 := N3.tab.mono g4
  have lR2 : R.length = n := by have := congrArg List.length eU; rw [List.length_map, (La.unitM_ok hk n).2] at this; exact this
  refine ⟨_, rfl, t3, rfl, ⟨_, SqL.of T5.1⟩, ?_⟩
  let Pv26_ : Nat → List V → Hp → Prop := fun i ys H' => ∃ ras2, ys = ras2.map V.ref ∧ Grow H5 H' ((R.map (List.drop n)).take i) ras2
  refine comp_list (xs := r3.map V.ref) Pv26_ ⟨[], rfl, Grow.nil H5 (Same.refl H5)⟩ ?_ ?_ ?_
  · intro i ys H' hi hI4_
    refine hide fun _ hG_ => ?_
    obtain ⟨ras2, rfl, G⟩ := hI4_
    refine hG_ ?_
    clear hG_
    refine ⟨SqL.of (G.same _ _ T5.1), ?_⟩
    have := pd_len G.rows
    rw [List.length_take, List.length_map] at this
    rw [List.length_map]; (first | lia | omega)
  · intro i v ys H' hv hi hI6_
    refine hide fun _ hG_ => ?_
    obtain ⟨ras2, rfl, G⟩ := hI6_
    refine hG_ ?_
    clear hG_
    refine hide fun _ hG_ => ?_
    obtain ⟨row, a, hx, ha, rfl, hrow⟩ := (T5.mono G.same).row hv
    refine hG_ ?_
    clear hG_
    refine hide fun _ hG_ => ?_
    obtain ⟨us, hus, pus, lus⟩ := hrow.len
    refine hG_ ?_
    clear hG_
    first | refine gyes ?_ | refine tyes ?_
    refine ⟨_, rfl, _, rfl, _, rfl, a, _, rfl, SqL.of hus, fun p hp => ?_⟩
    rw [cutFrom]
    refine nxt hi ⟨ras2 ++ [p], by rw [List.map_append]; rfl, ?_⟩
    have e : (R.map (List.drop n))[i]? = some (row.drop n) := by rw [List.getElem?_map, hx]; rfl
    rw [take_snoc e]
    exact G.snoc hp (pd_dropN pus n)
  intro ys H6 hI2_ pr hpr
  refine hide fun _ hG_ => ?_
  obtain ⟨ras3, rfl, G6⟩ := hI2_
  refine hG_ ?_
  clear hG_
  rw [List.length_map, List.take_of_length_le (by rw [List.length_map]; (first | lia | omega))] at G6
  exact q2 eU pr ras3 _ (G6.same.trans (same_new hpr _)) (G6.done hpr)
--SPLIT
theorem kit_ll (K : PySem.W.Frag) : PySem.W.kitOne K (.type "list") (.type "list") = some true := by unfold PySem.W.kitOne; rw [if_pos (by decide)]
theorem mulok_right {a b : Int} (h0 : -(2 ^ 64) < b) (h1 : b < 2 ^ 64) : IntMulOk a b := IntMulOk.of_right (intBits_le_64 h0 h1)
theorem mulok_left {a b : Int} (h0 : -(2 ^ 64) < a) (h1 : a < 2 ^ 64) : IntMulOk a b := IntMulOk.of_left (intBits_le_64 h0 h1)
/-! _law_mix -/
noncomputable def mixF (c j : Int) : Int := if (c.fmod 2 = 1 ∧ c / 2 ^ (27 : Int).toNat ≠ 0) then (c / 2 ^ (1 + 20 * j).toNat).fmod 1048576
  else ((((c * (2 * j + 3) + j).fmod 2147483629 * (c * (2 * j + 3) + j).fmod 2147483629 + 1) * 48271).fmod 2147483629 * (((c * (2 * j + 3) + j).fmod 2147483629 * (c * (2 * j + 3) + j).fmod 2147483629 + 1) * 48271).fmod 2147483629).fmod 2147483587
theorem mixF_bd (c j : Int) : 0 ≤ mixF c j ∧ mixF c j < 2147483648 := by
  unfold mixF
  split
  · have h0 := Int.fmod_nonneg_of_pos (c / 2 ^ (1 + 20 * j).toNat) (show (0 : Int) < 1048576 by decide)
    have h1 := Int.fmod_lt_of_pos (c / 2 ^ (1 + 20 * j).toNat) (show (0 : Int) < 1048576 by decide)
    (first | lia | omega)
  · generalize (((c * (2 * j + 3) + j).fmod 2147483629 * (c * (2 * j + 3) + j).fmod 2147483629 + 1) * 48271).fmod 2147483629 = x
    have h0 := Int.fmod_nonneg_of_pos (x * x) (show (0 : Int) < 2147483587 by decide)
    have h1 := Int.fmod_lt_of_pos (x * x) (show (0 : Int) < 2147483587 by decide)
    (first | lia | omega)
inductive Sp_mix (vs : List V) (H : Hp) (Q : VK) : Prop where
  | mk (c j : Int) (h0_ : vs = [.int c, .int j]) (h1_ : 0 ≤ j) (h2_ : j ≤ 1000000) (h3_ : Q (.int (mixF c j)) H) : Sp_mix  vs H Q
noncomputable def sp_mix : Sp := fun vs H Q _ => Sp_mix  vs H Q
theorem kn_mix (D : Df K mg "_law_mix" ["_law_cell", "_law_j"] s__law_mix) : Kn P w K mg base "_law_mix" 1 ["_law_cell", "_law_j"] sp_mix := by
  refine D.kn sc__law_mix (fun vs H Q E h => ?_) (fun f cdv A outer s H vs Q E hr h => ?_)
  · obtain ⟨c, j, rfl, _⟩ := h; rfl
  refine hide fun _ hG_ => ?_
  obtain ⟨c, j, rfl, j0, j1, q⟩ := h
  refine hG_ ?_
  clear hG_
  refine ⟨_, (pss_cons (ps_if (PW.pt (pw_and (pt_cmpR op_eq (pe_op op_modN (pv 0) pe_int) pe_int (nomark _)) (pw_and1 (pt_cmpR op_ne (pe_op op_shr (pv 0) pe_int) pe_int (nomark _))))) (pss_one (ps_ret (pe_op op_modN (pe_op op_shr (pv 0) (pe_op op_add pe_int (pe_op op_mulB pe_int (pv 1)))) pe_int))) pss_nil) (pss_cons (ps_set (i := 2) sc__law_mix.nd rfl (by first | exact Or.inl rfl | exact Or.inr rfl) (pe_op op_modN (pe_op op_add (pe_op op_mulB (pv 0) (pe_op op_add (pe_op op_mulB pe_int (pv 1)) pe_int)) (pv 1)) pe_int)) (pss_cons (ps_set (i := 2) sc__law_mix.nd rfl (by first | exact Or.inl rfl | exact Or.inr rfl) (pe_op op_modN (pe_op op_mulB (pe_op op_add (pe_op op_mulB (pv 2) (pv 2)) pe_int) pe_int) pe_int)) (pss_one (ps_ret (pe_op op_modN (pe_op op_mulB (pv 2) (pv 2)) pe_int)))))), ?_⟩
  have n1 : (2147483629 : Int) ≠ 0 := by decide
  have n2 : (2147483587 : Int) ≠ 0 := by decide
  have n3 : (1048576 : Int) ≠ 0 := by decide
  have a0 := Int.fmod_nonneg_of_pos (c * (2 * j + 3) + j) (show (0 : Int) < 2147483629 by decide)
  have a1 := Int.fmod_lt_of_pos (c * (2 * j + 3) + j) (show (0 : Int) < 2147483629 by decide)
  have b0 := Int.fmod_nonneg_of_pos (((c * (2 * j + 3) + j).fmod 2147483629 * (c * (2 * j + 3) + j).fmod 2147483629 + 1) * 48271) (show (0 : Int) < 2147483629 by decide)
  have b1 := Int.fmod_lt_of_pos (((c * (2 * j + 3) + j).fmod 2147483629 * (c * (2 * j + 3) + j).fmod 2147483629 + 1) * 48271) (show (0 : Int) < 2147483629 by decide)
  refine ⟨_, rfl, _, _, rfl, rfl, (by show (2 : Int) ≠ 0; decide), rfl, _, rfl, ?_⟩
  refine ite2 (fun c1 => ?_) (fun c1 => ?_)
  · have d1 : c.fmod 2 = 1 := V.int.inj (of_decide_eq_true c1)
    refine ⟨_, rfl, _, _, rfl, rfl, (by show (0 : Int) ≤ 27; decide), rfl, _, rfl, ?_⟩
    refine ite2 (fun c2 => ?_) (fun c2 => ?_)
    · have d2 : c / 2 ^ (27 : Int).toNat ≠ 0 := fun z => by
        have c2' : (!decide (V.int (c / 2 ^ (27 : Int).toNat) = V.int 0)) = true := c2
        rw [z] at c2'; exact absurd c2' (by decide)
      have e : mixF c j = (c / 2 ^ (1 + 20 * j).toNat).fmod 1048576 := by unfold mixF; rw [if_pos ⟨d1, d2⟩]
      rw [e] at q
      exact ⟨_, rfl, _, rfl, _, _, rfl, rfl, mulok_left (by decide) (by decide), _, _, rfl, rfl, _, _, rfl, rfl, (by (first | lia | omega)), _, _, rfl, rfl, n3, q⟩
    · have d2 : ¬ (c.fmod 2 = 1 ∧ c / 2 ^ (27 : Int).toNat ≠ 0) := fun ⟨_, h⟩ => by
        have h' : ¬ V.int (c / 2 ^ (27 : Int).toNat) = V.int 0 := fun e => h (V.int.inj e)
        have c2' : ¬ (!decide (V.int (c / 2 ^ (27 : Int).toNat) = V.int 0)) = true := c2
        rw [decide_eq_false h'] at c2'
        exact c2' rfl
      unfold mixF at q
      rw [if_neg d2] at q
      exact ⟨_, rfl, _, rfl, _, _, rfl, rfl, mulok_left (by decide) (by decide), _, _, rfl, rfl, _, _, rfl, rfl, mulok_right (by (first | lia | omega)) (by (first | lia | omega)), _, rfl, _, _, rfl, rfl, _, _, rfl, rfl, n1, _, rfl, _, rfl, _, _, rfl, rfl, mulok_left (by (first | lia | omega)) (by (first | lia | omega)), _, _, rfl, rfl, _, _, rfl, rfl, mulok_right (by decide) (by decide), _, _, rfl, rfl, n1, _, rfl, _, rfl, _, _, rfl, rfl, mulok_left (by (first | lia | omega)) (by (first | lia | omega)), _, _, rfl, rfl, n2, q⟩
  · have d2 : ¬ (c.fmod 2 = 1 ∧ c / 2 ^ (27 : Int).toNat ≠ 0) := fun ⟨h, _⟩ => c1 (show decide (V.int (c.fmod 2) = V.int 1) = true by rw [h]; decide)
    unfold mixF at q
    rw [if_neg d2] at q
    refine iteF ?_
    exact ⟨_, rfl, _, rfl, _, _, rfl, rfl, mulok_left (by decide) (by decide), _, _, rfl, rfl, _, _, rfl, rfl, mulok_right (by (first | lia | omega)) (by (first | lia | omega)), _, rfl, _, _, rfl, rfl, _, _, rfl, rfl, n1, _, rfl, _, rfl, _, _, rfl, rfl, mulok_left (by (first | lia | omega)) (by (first | lia | omega)), _, _, rfl, rfl, _, _, rfl, rfl, mulok_right (by decide) (by decide), _, _, rfl, rfl, n1, _, rfl, _, rfl, _, _, rfl, rfl, mulok_left (by (first | lia | omega)) (by (first | lia | omega)), _, _, rfl, rfl, n2, q⟩
/-! _law_lowest -/
inductive Sp_lowest (vs : List V) (H : Hp) (Q : VK) : Prop where
  | mk (t b : Int) (h0_ : vs = [.int t, .int b]) (h1_ : 0 < b) (h2_ : ∀ p H', Same H H' → H' p = some (.tup [.int (Rat.divInt t b).num, .int ((Rat.divInt t b).den : Int)]) → Q (.ref p) H') : Sp_lowest  vs H Q
noncomputable def sp_lowest : Sp := fun vs H Q _ => Sp_lowest  vs H Q
theorem kn_lowest (hP : P.given.tree = none) (hS : base.NoSeer) (D : Df K mg "_law_lowest" ["_law_top", "_law_bottom"] s__law_lowest) (d__law_divisor : Kn P w K mg base "_law_divisor" 1 ["_law_one", "_law_other"] sp_cd) : Kn P w K mg base "_law_lowest" 41 ["_law_top", "_law_bottom"] sp_lowest := by
  refine D.kn sc__law_lowest (fun vs H Q E h => ?_) (fun f cdv A outer s H vs Q E hr h => ?_)
  · obtain ⟨t, b, rfl, _⟩ := h; rfl
  refine hide fun _ hG_ => ?_
  obtain ⟨t, b, rfl, b0, q⟩ := h
  refine hG_ ?_
  clear hG_
  refine ⟨_, (pss_cons (ps_set (i := 2) sc__law_lowest.nd rfl (by first | exact Or.inl rfl | exact Or.inr rfl) (pe_kn d__law_divisor (hr.mono (by decide)) rfl (pa_cons (pv 0) (pa_cons (pv 1) pa_nil)))) (pss_one (ps_ret (pe_tup (pa_cons (pe_op (op_fdivU hr (by decide) hP hS ⟨_, _, rfl, rfl, rfl, rfl, rfl⟩) (pv 0) (pv 2)) (pa_cons (pe_op (op_fdivU hr (by decide) hP hS ⟨_, _, rfl, rfl, rfl, rfl, rfl⟩) (pv 1) (pv 2)) pa_nil)))))), ?_⟩
  have e : sg t b = ((Int.gcd t b : Nat) : Int) := by unfold sg; rw [if_neg (by (first | lia | omega))]
  have ne : ((Int.gcd t b : Nat) : Int) ≠ 0 := by rw [← e]; exact sg_ne (by (first | lia | omega))
  obtain ⟨e1, e2⟩ := frac_num (t := t) (b := b) (by (first | lia | omega))
  rw [e] at e1 e2
  refine ⟨_, rfl, _, rfl, t, b, rfl, _, rfl, _, rfl, _, _, rfl, rfl, ne, _, rfl, _, rfl, _, _, rfl, rfl, ne, (by show 2 ≤ sizeLine; decide), fun p hp => ?_⟩
  show Q (.ref p) (upd H p (.tup [.int (t.fdiv ((Int.gcd t b : Nat) : Int)), .int (b.fdiv ((Int.gcd t b : Nat) : Int))]))
  rw [e1, e2]
  exact q p _ (same_new hp _) upd_same
/-! _law_number, by its draw -/
noncomputable def numF (k d : Int) : Nb := if 0 < k then .z ((d.fdiv 4).fmod k * (if decide (0 < d.fmod 4) = true then 1 else 0)) else .q (Rat.divInt (((d.fdiv 4).fmod 13 - 6) * (if decide (0 < d.fmod 4) = true then 1 else 0)) (1 + (d.fdiv 52).fmod 6))
theorem sm7 {x : Int} (h0 : -100 < x) (h1 : x < 100) : Sm 7 x := by
  unfold Sm
  have : (2 : Nat) ^ 7 = 128 := by decide
  (first | lia | omega)
theorem bit_mul {x : Int} (c : Bool) (h0 : -100 < x) (h1 : x < 100) : -100 < x * (if c = true then 1 else 0) ∧ x * (if c = true then 1 else 0) < 100 := by
  cases c
  · simp
  · simp; (first | lia | omega)
theorem numF_ok {k : Int} (hk : KindOk k) (d : Int) : (numF k d).ok k ∧ nsm 7 (numF k d) := by
  have kl := hk.lt
  unfold numF
  split
  · rename_i k0
    have h0 := Int.fmod_nonneg_of_pos (d.fdiv 4) k0
    have h1 := Int.fmod_lt_of_pos (d.fdiv 4) k0
    cases decide (0 < d.fmod 4) with
    | true => simp only [if_true, Int.mul_one]; exact ⟨⟨by (first | lia | omega), h0, h1⟩, sm7 (by (first | lia | omega)) (by (first | lia | omega))⟩
    | false => simp only [Bool.false_eq_true, if_false, Int.mul_zero]; exact ⟨⟨by (first | lia | omega), by (first | lia | omega), by (first | lia | omega)⟩, sm7 (by (first | lia | omega)) (by (first | lia | omega))⟩
  · have b0 := Int.fmod_nonneg_of_pos (d.fdiv 52) (show (0 : Int) < 6 by decide)
    have b1 := Int.fmod_lt_of_pos (d.fdiv 52) (show (0 : Int) < 6 by decide)
    have t0 := Int.fmod_nonneg_of_pos (d.fdiv 4) (show (0 : Int) < 13 by decide)
    have t1 := Int.fmod_lt_of_pos (d.fdiv 4) (show (0 : Int) < 13 by decide)
    have tb := bit_mul (x := (d.fdiv 4).fmod 13 - 6) (decide (0 < d.fmod 4)) (by (first | lia | omega)) (by (first | lia | omega))
    refine ⟨by show k = 0; (first | lia | omega), ?_⟩
    exact divInt_sm (by (first | lia | omega)) (sm7 tb.1 tb.2) (sm7 (by (first | lia | omega)) (by (first | lia | omega)))
theorem numF_zero {k : Int} (hk : KindOk k) : numF k 0 = nnum k 0 := by
  have kl := hk.lt
  unfold numF nnum
  by_cases k0 : 0 < k
  · rw [if_pos k0, if_neg (show ¬ k = 0 by (first | lia | omega))]
    simp [Int.zero_fdiv, Int.zero_fmod]
  · rw [if_neg k0, if_pos (show k = 0 by (first | lia | omega))]
    exact congrArg Nb.q (by decide +kernel)
inductive Sp_lnumber (vs : List V) (H : Hp) (Q : VK) : Prop where
  | mk (k d : Int) (h0_ : vs = [.int k, .int d]) (h1_ : KindOk k) (h2_ : ∀ v H', Same H H' → RN H' (numF k d) v → Q v H') : Sp_lnumber  vs H Q
noncomputable def sp_lnumber : Sp := fun vs H Q _ => Sp_lnumber  vs H Q
theorem kn_lnumber (hP : P.given.tree = none) (hS : base.NoSeer) (D : Df K mg "_law_number" ["_law_kind_here", "_law_drawn"] s__law_number) (d__law_lowest : Kn P w K mg base "_law_lowest" 41 ["_law_top", "_law_bottom"] sp_lowest) (m_int : mg "int" = none) : Kn P w K mg base "_law_number" 42 ["_law_kind_here", "_law_drawn"] sp_lnumber := by
  refine D.kn sc__law_number (fun vs H Q E h => ?_) (fun f cdv A outer s H vs Q E hr h => ?_)
  · obtain ⟨k, d, rfl, _⟩ := h; rfl
  refine hide fun _ hG_ => ?_
  obtain ⟨k, d, rfl, hk, q⟩ := h
  refine hG_ ?_
  clear hG_
  have kl := hk.lt
  refine ⟨_, (pss_cons (ps_if (pt_cmpR op_gt (pv 0) pe_int (nomark _)) (pss_one (ps_ret (pe_op op_mulB (pe_op op_modN (pe_op (op_fdivU hr (by decide) hP hS ⟨_, _, rfl, rfl, rfl, rfl, rfl⟩) (pv 1) pe_int) (pv 0)) (pe_callTy call_int1 rfl m_int bb_int (pa_cons (pe_cmpR op_gt (pe_op op_modN (pv 1) pe_int) pe_int (nomark _)) pa_nil))))) pss_nil) (pss_one (ps_ret (pe_kn d__law_lowest (hr.mono (by decide)) rfl (pa_cons (pe_op op_mulB (pe_op op_sub (pe_op op_modN (pe_op (op_fdivU hr (by decide) hP hS ⟨_, _, rfl, rfl, rfl, rfl, rfl⟩) (pv 1) pe_int) pe_int) pe_int) (pe_callTy call_int1 rfl m_int bb_int (pa_cons (pe_cmpR op_gt (pe_op op_modN (pv 1) pe_int) pe_int (nomark _)) pa_nil))) (pa_cons (pe_op op_add pe_int (pe_op op_modN (pe_op (op_fdivU hr (by decide) hP hS ⟨_, _, rfl, rfl, rfl, rfl, rfl⟩) (pv 1) pe_int) pe_int)) pa_nil)))))), ?_⟩
  have n4 : (4 : Int) ≠ 0 := by decide
  unfold numF at q
  refine ⟨_, rfl, _, _, rfl, rfl, _, rfl, ?_⟩
  refine ite2 (fun ck => ?_) (fun ck => ?_)
  · have k0 : 0 < k := of_decide_eq_true ck
    rw [if_pos k0] at q
    exact ⟨_, rfl, _, _, rfl, rfl, n4, _, rfl, _, _, rfl, rfl, (show k ≠ 0 by (first | lia | omega)), _, rfl, _, _, rfl, rfl, n4, _, _, rfl, rfl, .inr ⟨_, rfl, _, _, rfl, rfl, mulok_small (Int.fmod_nonneg_of_pos (d.fdiv 4) k0) (by have := Int.fmod_lt_of_pos (d.fdiv 4) k0; (first | lia | omega)), q _ H (Same.refl H) RN.of_z⟩⟩
  · have k0 : ¬ 0 < k := of_decide_eq_false (Bool.eq_false_iff.mpr ck)
    rw [if_neg k0] at q
    have b0 := Int.fmod_nonneg_of_pos (d.fdiv 52) (show (0 : Int) < 6 by decide)
    have t0 := Int.fmod_nonneg_of_pos (d.fdiv 4) (show (0 : Int) < 13 by decide)
    have t1 := Int.fmod_lt_of_pos (d.fdiv 4) (show (0 : Int) < 13 by decide)
    exact ⟨_, rfl, _, _, rfl, rfl, n4, _, _, rfl, rfl, (by show (13 : Int) ≠ 0; decide), _, _, rfl, rfl, _, rfl, _, _, rfl, rfl, n4, _, _, rfl, rfl, .inr ⟨_, rfl, _, _, rfl, rfl, mulok_left (by (first | lia | omega)) (by (first | lia | omega)), _, rfl, _, _, rfl, rfl, (by show (52 : Int) ≠ 0; decide), _, _, rfl, rfl, (by show (6 : Int) ≠ 0; decide), _, _, rfl, rfl, _, _, rfl, (by (first | lia | omega)), fun p H' g hp => q _ H' g (RN.of_q hp)⟩⟩
/-! _law_times -/
theorem kn_ltimes (D : Df K mg "_law_times" ["_law_kind_here", "_law_one", "_law_other"] s__law_times) (d__law_lowest : Kn P w K mg base "_law_lowest" 41 ["_law_top", "_law_bottom"] sp_lowest) : Kn P w K mg base "_law_times" 42 ["_law_kind_here", "_law_one", "_law_other"] (sp_bin nmul) := by
  refine D.kn sc__law_times (fun vs H Q E h => ?_) (fun f cdv A outer s H vs Q E hr h => ?_)
  · obtain ⟨k, x, y, a, b, rfl, _⟩ := h; rfl
  refine hide fun _ hG_ => ?_
  obtain ⟨k, x, y, a, b, rfl, T, q⟩ := h
  refine hG_ ?_
  clear hG_
  have kl := T.kd.lt
  refine ⟨_, (pss_cons (ps_if (pt_cmpR op_gt (pv 0) pe_int (nomark _)) (pss_one (ps_ret (pe_op op_modN (pe_op op_mulB (pv 1) (pv 2)) (pv 0)))) pss_nil) (pss_one (ps_ret (pe_kn d__law_lowest (hr.mono (by decide)) rfl (pa_cons (pe_op op_mulB (pe_ix ix_tup0 (pv 1) pe_int (fun _ _ => rfl)) (pe_ix ix_tup0 (pv 2) pe_int (fun _ _ => rfl))) (pa_cons (pe_op op_mulB (pe_ix ix_tup0 (pv 1) pe_int (fun _ _ => rfl)) (pe_ix ix_tup0 (pv 2) pe_int (fun _ _ => rfl))) pa_nil)))))), ?_⟩
  rcases two_cases T with ⟨rfl, r, s, pa, pb, rfl, rfl, rfl, rfl, ha, hb, rn, rd, sn, sd⟩ | ⟨k0, hp, i, j, rfl, rfl, rfl, rfl, i0, ik, j0, jk⟩
  · refine ⟨_, rfl, _, _, rfl, rfl, _, rfl, iteF ?_⟩
    refine ⟨_, rfl, pa, _, _, _, rfl, rfl, SqT.of ha, rfl, _, rfl, pb, _, _, _, rfl, rfl, SqT.of hb, rfl, _, _, rfl, rfl, mulok_sm rn sn, _, rfl, pa, _, _, _, rfl, rfl, SqT.of ha, rfl, _, rfl, pb, _, _, _, rfl, rfl, SqT.of hb, rfl, _, _, rfl, rfl, mulok_sm rd sd, _, _, rfl, Int.mul_pos (den_pos r) (den_pos s), fun p H' g h => ?_⟩
    rw [rat_mul] at h
    exact q _ H' g (RN.of_q h)
  · refine ⟨_, rfl, _, _, rfl, rfl, _, rfl, ?_⟩
    rw [decide_eq_true (show 0 < k by (first | lia | omega))]
    refine iteT ?_
    refine ⟨_, rfl, _, rfl, _, _, rfl, rfl, mulok_small i0 (by have := hp.hi; (first | lia | omega)), _, rfl, _, _, rfl, rfl, k0, ?_⟩
    exact q _ _ (Same.refl H) RN.of_z
/-! _law_less -/
theorem kn_lless (D : Df K mg "_law_less" ["_law_kind_here", "_law_one", "_law_other"] s__law_less) (d__law_lowest : Kn P w K mg base "_law_lowest" 41 ["_law_top", "_law_bottom"] sp_lowest) : Kn P w K mg base "_law_less" 42 ["_law_kind_here", "_law_one", "_law_other"] (sp_bin nsub) := by
  refine D.kn sc__law_less (fun vs H Q E h => ?_) (fun f cdv A outer s H vs Q E hr h => ?_)
  · obtain ⟨k, x, y, a, b, rfl, _⟩ := h; rfl
  refine hide fun _ hG_ => ?_
  obtain ⟨k, x, y, a, b, rfl, T, q⟩ := h
  refine hG_ ?_
  clear hG_
  have kl := T.kd.lt
  refine ⟨_, (pss_cons (ps_if (pt_cmpR op_gt (pv 0) pe_int (nomark _)) (pss_one (ps_ret (pe_op op_modN (pe_op op_sub (pv 1) (pv 2)) (pv 0)))) pss_nil) (pss_one (ps_ret (pe_kn d__law_lowest (hr.mono (by decide)) rfl (pa_cons (pe_op op_sub (pe_op op_mulB (pe_ix ix_tup0 (pv 1) pe_int (fun _ _ => rfl)) (pe_ix ix_tup0 (pv 2) pe_int (fun _ _ => rfl))) (pe_op op_mulB (pe_ix ix_tup0 (pv 2) pe_int (fun _ _ => rfl)) (pe_ix ix_tup0 (pv 1) pe_int (fun _ _ => rfl)))) (pa_cons (pe_op op_mulB (pe_ix ix_tup0 (pv 1) pe_int (fun _ _ => rfl)) (pe_ix ix_tup0 (pv 2) pe_int (fun _ _ => rfl))) pa_nil)))))), ?_⟩
  rcases two_cases T with ⟨rfl, r, s, pa, pb, rfl, rfl, rfl, rfl, ha, hb, rn, rd, sn, sd⟩ | ⟨k0, hp, i, j, rfl, rfl, rfl, rfl, i0, ik, j0, jk⟩
  · refine ⟨_, rfl, _, _, rfl, rfl, _, rfl, iteF ?_⟩
    refine ⟨_, rfl, pa, _, _, _, rfl, rfl, SqT.of ha, rfl, _, rfl, pb, _, _, _, rfl, rfl, SqT.of hb, rfl, _, _, rfl, rfl, mulok_sm rn sd, _, rfl, pb, _, _, _, rfl, rfl, SqT.of hb, rfl, _, rfl, pa, _, _, _, rfl, rfl, SqT.of ha, rfl, _, _, rfl, rfl, mulok_sm sn rd, _, _, rfl, rfl, _, rfl, pa, _, _, _, rfl, rfl, SqT.of ha, rfl, _, rfl, pb, _, _, _, rfl, rfl, SqT.of hb, rfl, _, _, rfl, rfl, mulok_sm rd sd, _, _, rfl, Int.mul_pos (den_pos r) (den_pos s), fun p H' g h => ?_⟩
    rw [rat_sub] at h
    exact q _ H' g (RN.of_q h)
  · refine ⟨_, rfl, _, _, rfl, rfl, _, rfl, ?_⟩
    rw [decide_eq_true (show 0 < k by (first | lia | omega))]
    refine iteT ?_
    refine ⟨_, rfl, _, rfl, _, _, rfl, rfl, _, rfl, _, _, rfl, rfl, k0, ?_⟩
    exact q _ _ (Same.refl H) RN.of_z
/-! _law_sum -/
inductive Sp_lsum (vs : List V) (H : Hp) (Q : VK) : Prop where
  | mk (k : Int) (xs ys : List Nb) (a b : Addr) (h0_ : vs = [.int k, .ref a, .ref b]) (h1_ : KindOk k) (h2_ : RowAt H xs a) (h3_ : RowAt H ys b) (h4_ : La.OkR k xs) (h5_ : La.OkR k ys) (h6_ : xs.length = ys.length) (h7_ : xs.length ≤ 64) (h8_ : (∀ x ∈ xs, nsm 100000 x)) (h9_ : (∀ y ∈ ys, nsm 100000 y)) (h10_ : ∀ v H', Same H H' → RN H' (La.ndot k xs ys) v → Q v H') : Sp_lsum  vs H Q
noncomputable def sp_lsum : Sp := fun vs H Q _ => Sp_lsum  vs H Q
theorem rat_den (r : Rat) : r * ((r.den : Int) : Rat) = ((r.num : Int) : Rat) := La.kfRat.rat r rfl
theorem rat_step (r x y : Rat) : Rat.divInt (r.num * x.den * y.den + x.num * y.num * r.den) (r.den * x.den * y.den) = r + x * y := by
  rw [Rat.divInt_eq_div]
  have h1 := rat_den r
  have h2 := rat_den x
  have h3 := rat_den y
  have n1 : ((r.den : Int) : Rat) ≠ 0 := fun z => den_ne r (Rat.intCast_eq_zero_iff.mp z)
  have n2 : ((x.den : Int) : Rat) ≠ 0 := fun z => den_ne x (Rat.intCast_eq_zero_iff.mp z)
  have n3 : ((y.den : Int) : Rat) ≠ 0 := fun z => den_ne y (Rat.intCast_eq_zero_iff.mp z)
  rw [Rat.intCast_add, Rat.intCast_mul, Rat.intCast_mul, Rat.intCast_mul, Rat.intCast_mul, Rat.intCast_mul, Rat.intCast_mul]
  generalize ((r.den : Int) : Rat) = a at *
  generalize ((x.den : Int) : Rat) = b at *
  generalize ((y.den : Int) : Rat) = c at *
  generalize ((r.num : Int) : Rat) = a' at *
  generalize ((x.num : Int) : Rat) = b' at *
  generalize ((y.num : Int) : Rat) = c' at *
  grind
theorem kn_lsum (D : Df K mg "_law_sum" ["_law_kind_here", "_law_one", "_law_other"] s__law_sum) (d__law_lowest : Kn P w K mg base "_law_lowest" 41 ["_law_top", "_law_bottom"] sp_lowest) (m_sum : mg "sum" = none) (m_zip : mg "zip" = none) : Kn P w K mg base "_law_sum" 42 ["_law_kind_here", "_law_one", "_law_other"] sp_lsum := by
  refine D.kn sc__law_sum (fun vs H Q E h => ?_) (fun f cdv A outer s H vs Q E hr h => ?_)
  · obtain ⟨k, xs, ys, a, b, rfl, _⟩ := h; rfl
  refine hide fun _ hG_ => ?_
  obtain ⟨k, xs, ys, a, b, rfl, hk, ra, rb, ox, oy, hl, h64, sx, sy, q⟩ := h
  refine hG_ ?_
  clear hG_
  have kl := hk.lt
  have szl : sizeLine = 16777216 := by decide
  refine ⟨_, (pss_cons (ps_if (pt_cmpR op_gt (pv 0) pe_int (nomark _)) (pss_one (ps_ret (pe_op op_modN (pe_callB (call_sum0 rfl) rfl m_sum bb_sum (pa_cons (pe_comp ["_law_x", "_law_y"] [] [] ⟨rfl, rfl, rfl, rfl, rfl, rfl, by decide +kernel⟩ rfl (pi_zip0 rfl m_zip (pa_cons (pv 1) (pa_cons (pv 2) pa_nil))) (gown_tup (gowns_cons (gown_name (by decide)) gmono_name (gowns_cons (gown_name (by decide)) gmono_name gowns_nil))) fun _ _ _ _ _ _ => ⟨(pg_tup0 2 rfl (pgs_cons (pg_name (i := 0) (by decide : (["_law_x", "_law_y"] : List Str).Nodup) rfl (by first | exact Or.inl rfl | exact Or.inr rfl)) (pgs_cons (pg_name (i := 1) (by decide : (["_law_x", "_law_y"] : List Str).Nodup) rfl (by first | exact Or.inl rfl | exact Or.inr rfl)) pgs_nil))), pts_nil, (pe_op op_mulB (pv 0) (pv 1))⟩) pa_nil)) (pv 0)))) pss_nil) (pss_cons (ps_set (i := 3) sc__law_sum.nd rfl (by first | exact Or.inl rfl | exact Or.inr rfl) pe_int) (pss_cons (ps_set (i := 4) sc__law_sum.nd rfl (by first | exact Or.inl rfl | exact Or.inr rfl) pe_int) (pss_cons (ps_for PassesOwn.never rfl (pi_zip0 rfl m_zip (pa_cons (pv 1) (pa_cons (pv 2) pa_nil))) (pg_tup0 2 rfl (pgs_cons (pg_name (i := 5) sc__law_sum.nd rfl (by first | exact Or.inl rfl | exact Or.inr rfl)) (pgs_cons (pg_name (i := 6) sc__law_sum.nd rfl (by first | exact Or.inl rfl | exact Or.inr rfl)) pgs_nil))) (pss_one (ps_asg (pe_kn d__law_lowest (hr.mono (by decide)) rfl (pa_cons (pe_op op_add (pe_op op_mulB (pe_op op_mulB (pv 3) (pe_ix ix_tup0 (pv 5) pe_int (fun _ _ => rfl))) (pe_ix ix_tup0 (pv 6) pe_int (fun _ _ => rfl))) (pe_op op_mulB (pe_op op_mulB (pe_ix ix_tup0 (pv 5) pe_int (fun _ _ => rfl)) (pe_ix ix_tup0 (pv 6) pe_int (fun _ _ => rfl))) (pv 4))) (pa_cons (pe_op op_mulB (pe_op op_mulB (pv 4) (pe_ix ix_tup0 (pv 5) pe_int (fun _ _ => rfl))) (pe_ix ix_tup0 (pv 6) pe_int (fun _ _ => rfl))) pa_nil))) (pg_tup0 2 rfl (pgs_cons (pg_name (i := 3) sc__law_sum.nd rfl (by first | exact Or.inl rfl | exact Or.inr rfl)) (pgs_cons (pg_name (i := 4) sc__law_sum.nd rfl (by first | exact Or.inl rfl | exact Or.inr rfl)) pgs_nil)))))) (pss_one (ps_ret (pe_tup (pa_cons (pv 3) (pa_cons (pv 4) pa_nil))))))))), ?_⟩
  refine hide fun _ hG_ => ?_
  obtain ⟨us, ha, pa, la⟩ := ra.len
  refine hG_ ?_
  clear hG_
  refine hide fun _ hG_ => ?_
  obtain ⟨vs, hb, pb, lb⟩ := rb.len
  refine hG_ ?_
  clear hG_
  refine ⟨_, rfl, _, _, rfl, rfl, _, rfl, ?_⟩
  refine ite2 (fun ck => ?_) (fun ck => ?_)
  · have k0 : k ≠ 0 := by have := of_decide_eq_true ck; (first | lia | omega)
    refine hide fun _ hG_ => ?_
    obtain ⟨is, rfl, rfl⟩ := row_rests k0 ox pa
    refine hG_ ?_
    clear hG_
    refine hide fun _ hG_ => ?_
    obtain ⟨js, rfl, rfl⟩ := row_rests k0 oy pb
    refine hG_ ?_
    clear hG_
    rw [List.length_map] at hl h64
    rw [List.length_map] at hl
    refine ⟨_, rfl, _, rfl, a, b, _, _, rfl, SqL.of ha, SqL.of hb, ?_⟩
    let Pv27_ : Nat → List V → Hp → Prop := fun i ys' H' => Same H H' ∧ ys' = ((List.zipWith (· * ·) is js).take i).map V.int
    refine comp_zip (xs := is.map V.int) (zs := js.map V.int) (by rw [List.length_map, List.length_map]; (first | lia | omega)) Pv27_ ⟨Same.refl H, by simp⟩ ?_ ?_ ?_
    · rintro i ys' H' hi ⟨g, rfl⟩
      refine ⟨SqL.of (g _ _ ha), SqL.of (g _ _ hb), ?_⟩
      rw [List.length_map, List.length_take, List.length_zipWith]
      (first | lia | omega)
    · rintro i x z T ys' H' hx hy hi hT ⟨g, rfl⟩
      rw [List.getElem?_map] at hx hy
      refine hide fun _ hG_ => ?_
      obtain ⟨u, hu, rfl⟩ := Option.map_eq_some_iff.mp hx
      refine hG_ ?_
      clear hG_
      refine hide fun _ hG_ => ?_
      obtain ⟨u', hu', rfl⟩ := Option.map_eq_some_iff.mp hy
      refine hG_ ?_
      clear hG_
      have ou := ox (.z u) (List.mem_map.mpr ⟨u, List.mem_of_getElem? hu, rfl⟩)
      refine ⟨T, _, rfl, SqT.of upd_same, rfl, _, _, rfl, _, _, rfl, rfl, ?_⟩
      first | refine gyes ?_ | refine tyes ?_
      refine ⟨_, rfl, _, rfl, _, _, rfl, rfl, mulok_small ou.2.1 (by have := ou.2.2; (first | lia | omega)), nxt hi ⟨g.trans (same_new hT _), ?_⟩⟩
      have e : (List.zipWith (· * ·) is js)[i]? = some (u * u') := by rw [List.getElem?_zipWith, hu, hu']
      rw [take_snoc e, List.map_append]; rfl
    · rintro ys' H' ⟨g, rfl⟩ pl hpl
      have el : (is.map V.int).length = (List.zipWith (· * ·) is js).length := by rw [List.length_map, List.length_zipWith]; (first | lia | omega)
      rw [el, List.take_length]
      refine ⟨pl, _, rfl, SqL.of upd_same, _, rfl, _, _, rfl, rfl, k0, ?_⟩
      refine q _ _ (g.trans (same_new hpl _)) ?_
      rw [← La.zdot_eq hk k0 hl ox oy]
      exact RN.of_z
  · have k0 : k = 0 := by
      have : ¬ 0 < k := of_decide_eq_false (Bool.eq_false_iff.mpr ck)
      (first | lia | omega)
    subst k0
    have isq : ∀ (x : Nb), x.ok 0 → ∃ r, x = .q r := fun x o => by
      cases x with
      | q r => exact ⟨r, rfl⟩
      | z j => exact absurd rfl o.1
    refine ⟨_, rfl, _, rfl, a, b, us, vs, rfl, SqL.of ha, SqL.of hb, ?_⟩
    refine for_zip (xs := us) (zs := vs) (by (first | lia | omega)) (fun i σ H' => ∃ (r : Rat) (o5 o6 : Option V), σ = [some (.int 0), some (.ref a), some (.ref b), some (.int r.num), some (.int (r.den : Int)), o5, o6] ∧ Same H H' ∧ La.ndotF 0 ((xs.zip ys).take i) = .q r ∧ Sm (2 + i * 200001) r.num ∧ Sm (2 + i * 200001) (r.den : Int)) ⟨0, none, none, rfl, Same.refl H, rfl, sm_zero _, sm_one.mono (by (first | lia | omega))⟩ ?_ ?_ ?_
    · intro i σ H' _ hI4_
      refine hide fun _ hG_ => ?_
      obtain ⟨r, o5, o6, rfl, g, _⟩ := hI4_
      refine hG_ ?_
      clear hG_
      exact ⟨SqL.of (g _ _ ha), SqL.of (g _ _ hb)⟩
    · intro i x z T σ H' hx hz hT hI9_
      refine hide fun _ hG_ => ?_
      obtain ⟨r, o5, o6, rfl, g, er, sn, sd⟩ := hI9_
      refine hG_ ?_
      clear hG_
      refine hide fun _ hG_ => ?_
      obtain ⟨x', hx', rx⟩ := pd_right pa hx
      refine hG_ ?_
      clear hG_
      refine hide fun _ hG_ => ?_
      obtain ⟨y', hy', ry⟩ := pd_right pb hz
      refine hG_ ?_
      clear hG_
      obtain ⟨x1, rfl⟩ := isq x' (ox x' (List.mem_of_getElem? hx'))
      obtain ⟨y1, rfl⟩ := isq y' (oy y' (List.mem_of_getElem? hy'))
      have g' := g.trans (same_new hT (.tup [x, z]))
      refine hide fun _ hG_ => ?_
      obtain ⟨px, rfl, hpx⟩ := (rx.mono g').q
      refine hG_ ?_
      clear hG_
      refine hide fun _ hG_ => ?_
      obtain ⟨py, rfl, hpy⟩ := (ry.mono g').q
      refine hG_ ?_
      clear hG_
      have xs1 := sx _ (List.mem_of_getElem? hx')
      have ys1 := sy _ (List.mem_of_getElem? hy')
      have il : i < xs.length := (List.getElem?_eq_some_iff.mp hx').1
      have m1 := sn.mul xs1.2
      have m2 := xs1.1.mul ys1.1
      have m3 := sd.mul xs1.2
      have bp : (0 : Int) < (r.den : Int) * (x1.den : Int) * (y1.den : Int) := Int.mul_pos (Int.mul_pos (den_pos r) (den_pos x1)) (den_pos y1)
      refine ⟨T, _, rfl, SqT.of upd_same, rfl, _, _, rfl, _, _, rfl, rfl, ?_⟩
      refine ⟨_, rfl, _, rfl, px, _, _, _, rfl, rfl, SqT.of hpx, rfl, _, _, rfl, rfl, sn.mulOk xs1.2 (by (first | lia | omega)), _, rfl, py, _, _, _, rfl, rfl, SqT.of hpy, rfl, _, _, rfl, rfl, m1.mulOk ys1.2 (by (first | lia | omega)), ?_⟩
      refine ⟨_, rfl, px, _, _, _, rfl, rfl, SqT.of hpx, rfl, _, rfl, py, _, _, _, rfl, rfl, SqT.of hpy, rfl, _, _, rfl, rfl, xs1.1.mulOk ys1.1 (by (first | lia | omega)), _, rfl, _, _, rfl, rfl, m2.mulOk sd (by (first | lia | omega)), _, _, rfl, rfl, ?_⟩
      refine ⟨_, rfl, _, rfl, px, _, _, _, rfl, rfl, SqT.of hpx, rfl, _, _, rfl, rfl, sd.mulOk xs1.2 (by (first | lia | omega)), _, rfl, py, _, _, _, rfl, rfl, SqT.of hpy, rfl, _, _, rfl, rfl, m3.mulOk ys1.2 (by (first | lia | omega)), ?_⟩
      refine ⟨_, _, rfl, bp, fun p H2 g2 hp => ?_⟩
      rw [rat_step] at hp
      refine ⟨p, _, rfl, SqT.of hp, rfl, _, _, rfl, _, _, rfl, rfl, ?_⟩
      have e : (xs.zip ys)[i]? = some (.q x1, .q y1) := by rw [List.getElem?_zip_eq_some]; exact ⟨hx', hy'⟩
      refine ⟨r + x1 * y1, _, _, rfl, g'.trans g2, ?_, ?_⟩
      · rw [take_snoc e, La.ndotF_snoc, er]; rfl
      · rw [← rat_step]
        have st : Sm (2 + i * 200001 + 100000 + 100000 + 1) (r.num * x1.den * y1.den + x1.num * y1.num * r.den) := (m1.mul ys1.2).add ((m2.mul sd).mono (by (first | lia | omega)))
        have d := divInt_sm (by (first | lia | omega)) st (m3.mul ys1.2)
        exact ⟨d.1.mono (by (first | lia | omega)), d.2.mono (by (first | lia | omega))⟩
    · intro σ H' hI2_
      refine hide fun _ hG_ => ?_
      obtain ⟨r, o5, o6, rfl, g, er, sn, sd⟩ := hI2_
      refine hG_ ?_
      clear hG_
      refine ⟨_, rfl, _, rfl, (by show 2 ≤ sizeLine; decide), fun p hp => ?_⟩
      refine q _ _ (g.trans (same_new hp _)) ?_
      rw [la, List.take_of_length_le (by rw [List.length_zip]; (first | lia | omega))] at er
      have e : La.ndot 0 xs ys = .q r := er
      rw [e]
      exact RN.of_q upd_same
/-! _law_table, by its cell -/
noncomputable def rowF (k c : Int) (cols i : Nat) : List Nb := (List.range cols).map fun (j : Nat) => numF k (mixF c (10 + 4 * (i : Int) + (j : Int)))
noncomputable def tabN (c : Int) (j : Int) : Nat := (1 + (mixF c j).fmod 4).toNat
noncomputable def tab0 (k c : Int) (rows cols : Nat) : List (List Nb) := (List.range rows).map (rowF k c cols)
noncomputable def tabW (k c : Int) (rows cols : Nat) : List (List Nb) := if (mixF c 4).fmod 4 = 1 then (tab0 k c rows cols).set ((mixF c 7).fmod (rows : Int)).toNat (((tab0 k c rows cols).getD ((mixF c 6).fmod (rows : Int)).toNat []).map (nmul k (numF k (mixF c 5)))) else tab0 k c rows cols
theorem tabN_bd (c j : Int) : 1 ≤ tabN c j ∧ tabN c j ≤ 4 ∧ ((tabN c j : Nat) : Int) = 1 + (mixF c j).fmod 4 := by
  have h0 := Int.fmod_nonneg_of_pos (mixF c j) (show (0 : Int) < 4 by decide)
  have h1 := Int.fmod_lt_of_pos (mixF c j) (show (0 : Int) < 4 by decide)
  unfold tabN
  (first | lia | omega)
theorem tab0_ok {k : Int} (hk : KindOk k) (c : Int) (rows cols : Nat) : La.OkM k cols (tab0 k c rows cols) ∧ szM 14 (tab0 k c rows cols) ∧ (tab0 k c rows cols).length = rows ∧ szM 7 (tab0 k c rows cols) := by
  have s7 : szM 7 (tab0 k c rows cols) := fun r hr x hx => by
    unfold tab0 at hr
    obtain ⟨i, _, rfl⟩ := List.mem_map.mp hr
    obtain ⟨j, _, rfl⟩ := List.mem_map.mp hx
    exact (numF_ok hk _).2
  refine ⟨fun r hr => ?_, fun r hr x hx => (s7 r hr x hx).mono (by decide), by unfold tab0; simp, s7⟩
  unfold tab0 at hr
  obtain ⟨i, _, rfl⟩ := List.mem_map.mp hr
  refine ⟨by unfold rowF; simp, fun x hx => ?_⟩
  obtain ⟨j, _, rfl⟩ := List.mem_map.mp hx
  exact (numF_ok hk _).1
theorem tabW_ok {k : Int} (hk : KindOk k) (c : Int) (rows cols : Nat) (hr0 : 0 < rows) : La.OkM k cols (tabW k c rows cols) ∧ szM 14 (tabW k c rows cols) ∧ (tabW k c rows cols).length = rows := by
  obtain ⟨o, s, l, s7⟩ := tab0_ok hk c rows cols
  unfold tabW
  split
  · have h0 := Int.fmod_nonneg_of_pos (mixF c 6) (show (0 : Int) < (rows : Int) by (first | lia | omega))
    have h1 := Int.fmod_lt_of_pos (mixF c 6) (show (0 : Int) < (rows : Int) by (first | lia | omega))
    have hi : ((mixF c 6).fmod (rows : Int)).toNat < (tab0 k c rows cols).length := by (first | lia | omega)
    have e : (tab0 k c rows cols).getD ((mixF c 6).fmod (rows : Int)).toNat [] = (tab0 k c rows cols)[((mixF c 6).fmod (rows : Int)).toNat] := by
      rw [List.getD_eq_getElem?_getD, List.getElem?_eq_getElem hi]; rfl
    rw [e]
    have hm := List.getElem_mem hi
    generalize (tab0 k c rows cols)[((mixF c 6).fmod (rows : Int)).toNat] = row at *
    have or := o row hm
    refine ⟨okM_set o ⟨by rw [List.length_map]; exact or.1, fun x hx => ?_⟩, fun r hr x hx => ?_, by rw [List.length_set]; exact l⟩
    · obtain ⟨y, hy, rfl⟩ := List.mem_map.mp hx
      exact La.zmul_ok hk (numF_ok hk _).1 (or.2 y hy)
    · rcases La.mem_set_or hr with e | e
      · rw [e] at hx
        obtain ⟨y, hy, rfl⟩ := List.mem_map.mp hx
        exact nmul_sm hk (numF_ok hk _).1 (or.2 y hy) (numF_ok hk _).2 (s7 row hm y hy) (by decide)
      · exact s r e x hx
  · exact ⟨o, s, l⟩
noncomputable def tabF (k c : Int) : List (List Nb) := tabW k c (tabN c 2) (tabN c 2)
inductive Sp_ltab (vs : List V) (H : Hp) (Q : VK) : Prop where
  | mk (k c : Int) (h0_ : vs = [.int k, .int c]) (h1_ : KindOk k) (h2_ : ∀ t ras H', Same H H' → TabAt H' (tabF k c) t ras → Q (.ref t) H') : Sp_ltab  vs H Q
noncomputable def sp_ltab : Sp := fun vs H Q _ => Sp_ltab  vs H Q
theorem kn_ltable (D : Df K mg "_law_table" ["_law_kind_here", "_law_cell"] s__law_table) (d__law_number : Kn P w K mg base "_law_number" 42 ["_law_kind_here", "_law_drawn"] sp_lnumber) (d__law_mix : Kn P w K mg base "_law_mix" 1 ["_law_cell", "_law_j"] sp_mix) (d__law_times : Kn P w K mg base "_law_times" 42 ["_law_kind_here", "_law_one", "_law_other"] (sp_bin nmul)) (m_range : mg "range" = none) : Kn P w K mg base "_law_table" 43 ["_law_kind_here", "_law_cell"] sp_ltab := by
  refine D.kn sc__law_table (fun vs H Q E h => ?_) (fun f cdv A outer s H vs Q E hr h => ?_)
  · obtain ⟨k, c, rfl, _⟩ := h; rfl
  refine hide fun _ hG_ => ?_
  obtain ⟨k, c, rfl, hk, q⟩ := h
  refine hG_ ?_
  clear hG_
  unfold tabF at q
  have szl : sizeLine = 16777216 := by decide
  refine ⟨_, (pss_cons (ps_set (i := 2) sc__law_table.nd rfl (by first | exact Or.inl rfl | exact Or.inr rfl) (pe_op op_add pe_int (pe_op op_modN (pe_kn d__law_mix (hr.mono (by decide)) rfl (pa_cons (pv 1) (pa_cons pe_int pa_nil))) pe_int))) (pss_cons (ps_set (i := 3) sc__law_table.nd rfl (by first | exact Or.inl rfl | exact Or.inr rfl) (pe_lst pa_nil)) (pss_cons (ps_for PassesOwn.never rfl (pi_range1 rfl m_range (pa_cons (pv 2) pa_nil)) (pg_name (i := 4) sc__law_table.nd rfl (by first | exact Or.inl rfl | exact Or.inr rfl)) (pss_one (ps_expr (bm0 (fun _ h => pe_bm PySem.F.plainAttrs_list PySem.F.slot_list_append PySem.F.type_list_append mt_append h (pa_cons (pe_comp ["_law_j"] ["_law_kind_here", "_law_cell", "_law_i"] [0, 1, 4] ⟨rfl, rfl, rfl, rfl, rfl, rfl, by decide +kernel⟩ rfl (pi_range1 rfl m_range (pa_cons (pv 2) pa_nil)) (gown_name (by decide)) fun _ _ _ _ _ _ => ⟨(pg_name (i := 0) (by decide : (["_law_j", "_law_kind_here", "_law_cell", "_law_i"] : List Str).Nodup) rfl (by first | exact Or.inl rfl | exact Or.inr rfl)), pts_nil, (pe_kn d__law_number (hr.mono (by decide)) rfl (pa_cons (pv 1) (pa_cons (pe_kn d__law_mix (hr.mono (by decide)) rfl (pa_cons (pv 2) (pa_cons (pe_op op_add (pe_op op_add pe_int (pe_op op_mulB pe_int (pv 3))) (pv 0)) pa_nil))) pa_nil)))⟩) pa_nil)) (pv 3))))) (pss_cons (ps_if (pt_cmpR op_eq (pe_op op_modN (pe_kn d__law_mix (hr.mono (by decide)) rfl (pa_cons (pv 1) (pa_cons pe_int pa_nil))) pe_int) pe_int (nomark _)) (pss_cons (ps_set (i := 5) sc__law_table.nd rfl (by first | exact Or.inl rfl | exact Or.inr rfl) (pe_kn d__law_number (hr.mono (by decide)) rfl (pa_cons (pv 0) (pa_cons (pe_kn d__law_mix (hr.mono (by decide)) rfl (pa_cons (pv 1) (pa_cons pe_int pa_nil))) pa_nil)))) (pss_cons (ps_set (i := 6) sc__law_table.nd rfl (by first | exact Or.inl rfl | exact Or.inr rfl) (pe_ix ix_list0 (pv 3) (pe_op op_modN (pe_kn d__law_mix (hr.mono (by decide)) rfl (pa_cons (pv 1) (pa_cons pe_int pa_nil))) (pv 2)) (fun _ _ => rfl))) (pss_one (ps_asg (pe_comp ["_law_x"] ["_law_kind_here", "_law_by"] [0, 5] ⟨rfl, rfl, rfl, rfl, rfl, rfl, by decide +kernel⟩ rfl (pi_list0 (pv 6)) (gown_name (by decide)) fun _ _ _ _ _ _ => ⟨(pg_name (i := 0) (by decide : (["_law_x", "_law_kind_here", "_law_by"] : List Str).Nodup) rfl (by first | exact Or.inl rfl | exact Or.inr rfl)), pts_nil, (pe_kn d__law_times (hr.mono (by decide)) rfl (pa_cons (pv 1) (pa_cons (pv 2) (pa_cons (pv 0) pa_nil))))⟩) (pg_sub (pv 3) (pe_op op_modN (pe_kn d__law_mix (hr.mono (by decide)) rfl (pa_cons (pv 1) (pa_cons pe_int pa_nil))) (pv 2)) set_list))))) pss_nil) (pss_one (ps_ret (pv 3))))))), ?_⟩
  have bd := mixF_bd c
  refine hide fun _ hG_ => ?_
  obtain ⟨rw1, rw4, erw⟩ := tabN_bd c 2
  refine hG_ ?_
  clear hG_
  refine ⟨_, rfl, c, _, rfl, (by decide), (by decide), _, _, rfl, rfl, (by show (4 : Int) ≠ 0; decide), _, _, rfl, rfl, ?_⟩
  try dsimp only
  rw [← erw]
  generalize tabN c 2 = rows at *
  refine ⟨(by show 0 ≤ sizeLine; decide), fun pt hpt => ?_⟩
  refine ⟨_, rfl, _, rfl, (by (first | lia | omega)), (by (first | lia | omega)), ?_⟩
  rw [Int.toNat_natCast]
  let Pv28_ : Nat → L2.St → Hp → Prop := fun i σ H4 => ∃ ras o6 o7 o8, σ = [some (.int k), some (.int c), some (.int (rows : Int)), some (.ref pt), o6, o7, o8] ∧ Grow H H4 ((tab0 k c rows rows).take i) ras ∧ H4 pt = some (.lst (ras.map V.ref)) ∧ pt ∉ ras
  refine for_range (lo := 0) (n := rows) Pv28_ ⟨[], none, none, none, rfl, Grow.nil H (same_new hpt _), upd_same, by simp⟩ ?_ ?_
  · intro i σ H4 hi hI4_
    refine hide fun _ hG_ => ?_
    obtain ⟨ras, o6, o7, o8, rfl, G, hpt4, npt4⟩ := hI4_
    refine hG_ ?_
    clear hG_
    refine ⟨_, rfl, .inl ⟨rfl, _, SqL.of hpt4⟩, _, rfl, _, rfl, (by (first | lia | omega)), (by (first | lia | omega)), ?_⟩
    rw [Int.toNat_natCast]
    let Pv29_ : Nat → List V → Hp → Prop := fun j ys' H6 => Same H4 H6 ∧ Paired (RN H6) ((rowF k c rows i).take j) ys'
    refine comp_range (lo := 0) (n := rows) Pv29_ ⟨Same.refl _, .nil⟩ ?_ ?_ ?_
    · rintro j ys' H6 hj ⟨g6, pr6⟩
      have := pd_len pr6
      rw [List.length_take] at this
      (first | lia | omega)
    · rintro j ys' H6 hj ⟨g6, pr6⟩
      first | refine gyes ?_ | refine tyes ?_
      refine ⟨_, rfl, _, rfl, _, rfl, _, _, rfl, rfl, mulok_left (by decide) (by decide), _, _, rfl, rfl, _, rfl, _, _, rfl, rfl, c, _, rfl, (by (first | lia | omega)), (by (first | lia | omega)), ?_⟩
      refine ⟨k, _, rfl, hk, fun v H7 g7 xr => ?_⟩
      refine nxt hj ⟨g6.trans g7, ?_⟩
      have e : (rowF k c rows i)[j]? = some (numF k (mixF c (10 + 4 * (0 + (i : Int)) + (0 + (j : Int))))) := by
        unfold rowF; rw [List.getElem?_map, List.getElem?_range hj]; simp
      rw [take_snoc e]
      exact pd_snoc (pd_rn g7 pr6) xr
    · rintro ys' H6 ⟨g6, pr6⟩ pn hpn
      rw [List.take_of_length_le (by unfold rowF; simp)] at pr6
      have npn : pt ≠ pn := fun e => by rw [← e, g6 _ _ hpt4] at hpn; cases hpn
      refine ⟨pt, _, _, rfl, rfl, (by rw [upd_ne npn]; exact g6 _ _ hpt4), ?_, ?_⟩
      · have := pd_len G.rows
        rw [List.length_take] at this
        rw [List.length_map]; (first | lia | omega)
      obtain ⟨G2, nm2⟩ := G.push (zs' := (ras.map V.ref) ++ [.ref pn]) hpt hpt4 npt4 g6 hpn pr6
      refine ⟨ras ++ [pn], _, _, _, rfl, ?_, ?_, nm2⟩
      · have e : (tab0 k c rows rows)[i]? = some (rowF k c rows i) := by unfold tab0; rw [List.getElem?_map, List.getElem?_range hi]; rfl
        rw [take_snoc e]
        exact G2
      · rw [upd_same, List.map_append]; rfl
  intro σ H4 hI2_
  refine hide fun _ hG_ => ?_
  obtain ⟨ras, o6, o7, o8, rfl, G, hpt4, npt4⟩ := hI2_
  refine hG_ ?_
  clear hG_
  refine hide fun _ hG_ => ?_
  obtain ⟨o0, s0, l0, s7⟩ := tab0_ok hk c rows rows
  refine hG_ ?_
  clear hG_
  rw [List.take_of_length_le (by (first | lia | omega))] at G
  have T4 : TabAt H4 (tab0 k c rows rows) pt ras := ⟨hpt4, G.rows⟩
  have lras := pd_len T4.2
  refine ⟨_, rfl, c, _, rfl, (by decide), (by decide), _, _, rfl, rfl, (by show (4 : Int) ≠ 0; decide), rfl, _, rfl, ?_⟩
  refine ite2 (fun c4 => ?_) (fun c4 => ?_)
  · have e4 : (mixF c 4).fmod 4 = 1 := V.int.inj (of_decide_eq_true c4)
    have i0 := Int.fmod_nonneg_of_pos (mixF c 6) (show (0 : Int) < (rows : Int) by (first | lia | omega))
    have i1 := Int.fmod_lt_of_pos (mixF c 6) (show (0 : Int) < (rows : Int) by (first | lia | omega))
    have j0 := Int.fmod_nonneg_of_pos (mixF c 7) (show (0 : Int) < (rows : Int) by (first | lia | omega))
    have j1 := Int.fmod_lt_of_pos (mixF c 7) (show (0 : Int) < (rows : Int) by (first | lia | omega))
    have eW : tabW k c rows rows = (tab0 k c rows rows).set ((mixF c 7).fmod (rows : Int)).toNat (((tab0 k c rows rows).getD ((mixF c 6).fmod (rows : Int)).toNat []).map (nmul k (numF k (mixF c 5)))) := by unfold tabW; rw [if_pos e4]
    obtain ⟨iN, ei, hi⟩ : ∃ iN : Nat, (mixF c 6).fmod (rows : Int) = (iN : Int) ∧ iN < rows := ⟨((mixF c 6).fmod (rows : Int)).toNat, by (first | lia | omega), by (first | lia | omega)⟩
    obtain ⟨jN, ej, hj⟩ : ∃ jN : Nat, (mixF c 7).fmod (rows : Int) = (jN : Int) ∧ jN < rows := ⟨((mixF c 7).fmod (rows : Int)).toNat, by (first | lia | omega), by (first | lia | omega)⟩
    rw [ei, ej, Int.toNat_natCast, Int.toNat_natCast] at eW
    obtain ⟨x, ex⟩ : ∃ x, (tab0 k c rows rows)[iN]? = some x := ⟨_, List.getElem?_eq_getElem (by (first | lia | omega))⟩
    have eD : (tab0 k c rows rows).getD iN [] = x := by rw [List.getD_eq_getElem?_getD, ex]; rfl
    rw [eD] at eW
    refine hide fun _ hG_ => ?_
    obtain ⟨a, ea, hra⟩ := pd_left T4.2 ex
    refine hG_ ?_
    clear hG_
    have ox := o0 x (List.mem_of_getElem? ex)
    have sx := s7 x (List.mem_of_getElem? ex)
    refine ⟨_, rfl, _, rfl, c, _, rfl, (by decide), (by decide), k, _, rfl, hk, fun vb H5 g5 rb => ?_⟩
    have on := numF_ok hk (mixF c 5)
    refine ⟨_, rfl, _, rfl, c, _, rfl, (by decide), (by decide), _, rfl, _, _, rfl, rfl, (show (rows : Int) ≠ 0 by (first | lia | omega)), pt, _, _, _, rfl, rfl, SqL.of (g5 _ _ hpt4), (by show atI (ras.map V.ref) ((mixF c 6).fmod (rows : Int)) = _; rw [ei]; exact atI_nat (by rw [List.getElem?_map, ea]; rfl)), ?_⟩
    refine hide fun _ hG_ => ?_
    obtain ⟨us, hus, pus, lus⟩ := (hra.mono g5).len
    refine hG_ ?_
    clear hG_
    refine ⟨_, rfl, a, rfl, ⟨_, SqL.of hus⟩, ?_⟩
    let Pv30_ : Nat → List V → Hp → Prop := fun l ys H7 => Same H5 H7 ∧ Paired (RN H7) ((x.map (nmul k (numF k (mixF c 5)))).take l) ys
    refine comp_list (xs := us) Pv30_ ⟨Same.refl _, .nil⟩ ?_ ?_ ?_
    · rintro l ys H7 hl7 ⟨g7, pr7⟩
      refine ⟨SqL.of (g7 _ _ hus), ?_⟩
      have := pd_len pr7
      rw [List.length_take, List.length_map] at this
      have := ox.1
      (first | lia | omega)
    · rintro l vy ys H7 hvy hl7 ⟨g7, pr7⟩
      refine hide fun _ hG_ => ?_
      obtain ⟨y, hy, ry⟩ := pd_right pus hvy
      refine hG_ ?_
      clear hG_
      have hym := List.mem_of_getElem? hy
      first | refine gyes ?_ | refine tyes ?_
      refine ⟨_, rfl, _, rfl, _, rfl, k, _, y, vb, vy, rfl, ⟨hk, on.1, ox.2 y hym, on.2.mono (by decide), (sx y hym).mono (by decide), rb.mono g7, ry.mono g7⟩, fun v8 H8 g8 r8 => nxt hl7 ⟨g7.trans g8, ?_⟩⟩
      have e : (x.map (nmul k (numF k (mixF c 5))))[l]? = some (nmul k (numF k (mixF c 5)) y) := by rw [List.getElem?_map, hy]; rfl
      rw [take_snoc e]
      exact pd_snoc (pd_rn g8 pr7) r8
    · rintro ys H7 ⟨g7, pr7⟩ pn hpn
      rw [List.take_of_length_le (by rw [List.length_map]; (first | lia | omega))] at pr7
      have g17 := (g5.trans g7).trans (same_new hpn (.lst ys))
      have T7 := T4.mono g17
      have hn7 : RowAt (upd H7 pn (.lst ys)) (x.map (nmul k (numF k (mixF c 5)))) pn := ⟨ys, upd_same, pd_rn (same_new hpn _) pr7⟩
      have npn : pn ≠ pt := fun e => by rw [e, (g5.trans g7) _ _ hpt4] at hpn; cases hpn
      refine ⟨_, rfl, _, rfl, c, _, rfl, (by decide), (by decide), _, rfl, _, _, rfl, rfl, (show (rows : Int) ≠ 0 by (first | lia | omega)), pt, _, _, jN, rfl, (by show V.int ((mixF c 7).fmod (rows : Int)) = V.int (jN : Int); rw [ej]), T7.1, ixN_nat (by rw [List.length_map, ← lras, l0]; exact hj), ?_⟩
      refine ⟨_, rfl, ?_⟩
      have T8 := T7.setRow (i := jN) hn7 npn npt4
      rw [← eW] at T8
      exact q pt (ras.set jN pn) _ (same_upd (G.same.trans g17) hpt) T8
  · have e4 : (mixF c 4).fmod 4 ≠ 1 := fun z => c4 (show decide (V.int ((mixF c 4).fmod 4) = V.int 1) = true by rw [z]; decide)
    have eW : tabW k c rows rows = tab0 k c rows rows := by unfold tabW; rw [if_neg e4]
    rw [eW] at q
    exact ⟨_, rfl, q pt ras H4 G.same T4⟩
/-! _law_whole -/
noncomputable def sp_whole : Sp := fun vs H Q _ => ∃ i : Int, vs = [.int i] ∧ Q (.bl true) H
theorem kn_whole (D : Df K mg "_law_whole" ["_law_found"] s__law_whole) (m_isinstance : mg "isinstance" = none) (m_int : mg "int" = none) (m_bool : mg "bool" = none) : Kn P w K mg base "_law_whole" 1 ["_law_found"] sp_whole := by
  refine D.kn sc__law_whole (fun vs H Q E h => ?_) (fun f cdv A outer s H vs Q E hr h => ?_)
  · obtain ⟨i, rfl, _⟩ := h; rfl
  refine hide fun _ hG_ => ?_
  obtain ⟨i, rfl, q⟩ := h
  refine hG_ ?_
  clear hG_
  refine ⟨_, (pss_one (ps_ret (pe_and (pe_callB (call_isiK (K := K) rfl) rfl m_isinstance bb_isinstance (pa_cons (pv 0) (pa_cons (pe_ty rfl m_int bb_int) pa_nil))) (pe_one (pe_not (pe_callB (call_isiK (K := K) rfl) rfl m_isinstance bb_isinstance (pa_cons (pv 0) (pa_cons (pe_ty rfl m_bool bb_bool) pa_nil)))))))), ?_⟩
  refine ⟨_, rfl, _, _, _, _, rfl, TyOf.int i, kit_ii K, _, rfl, iteT ?_⟩
  exact ⟨_, rfl, _, _, _, _, rfl, TyOf.int i, kit_ib K, _, rfl, q⟩
--SPLIT
/-! _law_product -/
inductive Sp_lprod (vs : List V) (H : Hp) (Q : VK) : Prop where
  | mk (k : Int) (M N : List (List Nb)) (n : Nat) (t1 t2 : Addr) (r1 r2 : List Addr) (h0_ : vs = [.int k, .ref t1, .ref t2]) (h1_ : KindOk k) (h2_ : TabAt H M t1 r1) (h3_ : TabAt H N t2 r2) (h4_ : TOk k n n 100000 M) (h5_ : TOk k n n 100000 N) (h6_ : 1 ≤ n) (h7_ : n ≤ 4) (h8_ : ∀ t ras H', Same H H' → TabAt H' (prodM k n M N) t ras → Q (.ref t) H') : Sp_lprod  vs H Q
noncomputable def sp_lprod : Sp := fun vs H Q _ => Sp_lprod  vs H Q
theorem kn_lprod (D : Df K mg "_law_product" ["_law_kind_here", "_law_one", "_law_other"] s__law_product) (d__law_sum : Kn P w K mg base "_law_sum" 42 ["_law_kind_here", "_law_one", "_law_other"] sp_lsum) (m_len : mg "len" = none) (m_range : mg "range" = none) : Kn P w K mg base "_law_product" 43 ["_law_kind_here", "_law_one", "_law_other"] sp_lprod := by
  refine D.kn sc__law_product (fun vs H Q E h => ?_) (fun f cdv A outer s H vs Q E hr h => ?_)
  · obtain ⟨k, M, N, n, t1, t2, r1, r2, rfl, _⟩ := h; rfl
  refine hide fun _ hG_ => ?_
  obtain ⟨k, M, N, n, t1, t2, r1, r2, rfl, hk, hM, hN, oM, oN, n1, n4, q⟩ := h
  refine hG_ ?_
  clear hG_
  have szl : sizeLine = 16777216 := by decide
  refine ⟨_, (pss_cons (ps_set (i := 3) sc__law_product.nd rfl (by first | exact Or.inl rfl | exact Or.inr rfl) (pe_comp ["_law_j"] ["_law_other"] [2] ⟨rfl, rfl, rfl, rfl, rfl, rfl, by decide +kernel⟩ rfl (pi_range1 rfl m_range (pa_cons (pe_callB call_len0 rfl m_len bb_len (pa_cons (pe_ix ix_list0 (pv 2) pe_int (fun _ _ => rfl)) pa_nil)) pa_nil)) (gown_name (by decide)) fun _ _ _ _ _ _ => ⟨(pg_name (i := 0) (by decide : (["_law_j", "_law_other"] : List Str).Nodup) rfl (by first | exact Or.inl rfl | exact Or.inr rfl)), pts_nil, (pe_comp ["_law_row"] ["_law_j"] [0] ⟨rfl, rfl, rfl, rfl, rfl, rfl, by decide +kernel⟩ rfl (pi_list0 (pv 1)) (gown_name (by decide)) fun _ _ _ _ _ _ => ⟨(pg_name (i := 0) (by decide : (["_law_row", "_law_j"] : List Str).Nodup) rfl (by first | exact Or.inl rfl | exact Or.inr rfl)), pts_nil, (pe_ix ix_list0 (pv 0) (pv 1) (fun _ _ => rfl))⟩)⟩)) (pss_one (ps_ret (pe_comp ["_law_row"] ["_law_columns", "_law_kind_here"] [3, 0] ⟨rfl, rfl, rfl, rfl, rfl, rfl, by decide +kernel⟩ rfl (pi_list0 (pv 1)) (gown_name (by decide)) fun _ _ _ _ _ _ => ⟨(pg_name (i := 0) (by decide : (["_law_row", "_law_columns", "_law_kind_here"] : List Str).Nodup) rfl (by first | exact Or.inl rfl | exact Or.inr rfl)), pts_nil, (pe_comp ["_law_column"] ["_law_kind_here", "_law_row"] [2, 0] ⟨rfl, rfl, rfl, rfl, rfl, rfl, by decide +kernel⟩ rfl (pi_list0 (pv 1)) (gown_name (by decide)) fun _ _ _ _ _ _ => ⟨(pg_name (i := 0) (by decide : (["_law_column", "_law_kind_here", "_law_row"] : List Str).Nodup) rfl (by first | exact Or.inl rfl | exact Or.inr rfl)), pts_nil, (pe_kn d__law_sum (hr.mono (by decide)) rfl (pa_cons (pv 1) (pa_cons (pv 2) (pa_cons (pv 0) pa_nil))))⟩)⟩)))), ?_⟩
  have l1 := pd_len hM.2
  rw [oM.len] at l1
  have l2 := pd_len hN.2
  rw [oN.len] at l2
  obtain ⟨c0, r2', e0⟩ : ∃ c0 r2', r2 = c0 :: r2' := by
    cases r2 with
    | nil => rw [List.length_nil] at l2; (first | lia | omega)
    | cons a b => exact ⟨a, b, rfl⟩
  obtain ⟨m0, hm0, hc0⟩ := pd_right hN.2 (i := 0) (b := c0) (by rw [e0]; rfl)
  refine hide fun _ hG_ => ?_
  obtain ⟨u0, hu0, pu0, lu0⟩ := hc0.len
  refine hG_ ?_
  clear hG_
  have lm0 := (oN.ok m0 (List.mem_of_getElem? hm0)).1
  have oT := tr_tok oN
  have lT := oT.len
  -- columns
  refine ⟨_, rfl, t2, _, _, _, rfl, rfl, SqL.of hN.1, (by rw [e0]; exact atI_nat (j := 0) rfl), c0, _, rfl, .inl (SqL.of hu0), n, (by rw [lu0, lm0]), (by (first | lia | omega)), (by (first | lia | omega)), ?_⟩
  rw [Int.toNat_natCast]
  let Pv31_ : Nat → List V → Hp → Prop := fun i ys H' => ∃ ras2, ys = ras2.map V.ref ∧ Grow H H' ((transp n N).take i) ras2
  refine comp_range (lo := 0) (n := n) Pv31_ ⟨[], rfl, Grow.nil H (Same.refl H)⟩ ?_ ?_ ?_
  · intro i ys H' hi hI4_
    refine hide fun _ hG_ => ?_
    obtain ⟨ras2, rfl, G⟩ := hI4_
    refine hG_ ?_
    clear hG_
    have := pd_len G.rows
    rw [List.length_take] at this
    rw [List.length_map]; (first | lia | omega)
  · intro i ys H' hi hI4_
    refine hide fun _ hG_ => ?_
    obtain ⟨ras2, rfl, G⟩ := hI4_
    refine hG_ ?_
    clear hG_
    first | refine gyes ?_ | refine tyes ?_
    have N1 := hN.mono G.same
    have ec : (transp n N)[i]? = some (N.map fun r => r.getD i (.z 0)) := by unfold transp; rw [List.getElem?_map, List.getElem?_range hi]; rfl
    refine ⟨_, rfl, t2, rfl, ⟨_, SqL.of N1.1⟩, ?_⟩
    let Pv32_ : Nat → List V → Hp → Prop := fun l ys H6 => Same H' H6 ∧ Paired (RN H6) ((N.map fun r => r.getD i (.z 0)).take l) ys
    refine comp_list (xs := r2.map V.ref) Pv32_ ⟨Same.refl _, .nil⟩ ?_ ?_ ?_
    · rintro l ys H6 hl ⟨g6, pr⟩
      refine ⟨SqL.of (g6 _ _ N1.1), ?_⟩
      have := pd_len pr
      rw [List.length_take, List.length_map] at this
      rw [List.length_map] at hl; (first | lia | omega)
    · rintro l v ys H6 hv hl ⟨g6, pr⟩
      refine hide fun _ hG_ => ?_
      obtain ⟨row, a, hrow, ha, rfl, hR⟩ := (N1.mono g6).row hv
      refine hG_ ?_
      clear hG_
      have lr := (oN.ok row (List.mem_of_getElem? hrow)).1
      refine hide fun _ hG_ => ?_
      obtain ⟨us, hus, pus, lus⟩ := hR.len
      refine hG_ ?_
      clear hG_
      obtain ⟨x, hx⟩ : ∃ x, row[i]? = some x := ⟨_, List.getElem?_eq_getElem (by (first | lia | omega))⟩
      refine hide fun _ hG_ => ?_
      obtain ⟨u, hu, ru⟩ := pd_left pus hx
      refine hG_ ?_
      clear hG_
      first | refine gyes ?_ | refine tyes ?_
      rw [Int.zero_add]
      refine ⟨_, rfl, _, rfl, a, _, _, _, rfl, rfl, SqL.of hus, atI_nat hu, nxt hl ⟨g6, ?_⟩⟩
      have e : (N.map fun r => r.getD i (.z 0))[l]? = some x := by rw [List.getElem?_map, hrow]; show some (row.getD i (.z 0)) = _; rw [List.getD_eq_getElem?_getD, hx]; rfl
      rw [take_snoc e]
      exact pd_snoc pr ru
    · rintro ys H6 ⟨g6, pr⟩ p hp
      rw [List.length_map, List.take_of_length_le (by rw [List.length_map, oN.len]; (first | lia | omega))] at pr
      refine nxt hi ⟨ras2 ++ [p], by rw [List.map_append]; rfl, ?_⟩
      rw [take_snoc ec]
      exact (G.mono g6).snoc hp pr
  intro ys H1 hI2_ tc htc
  refine hide fun _ hG_ => ?_
  obtain ⟨rc, rfl, G⟩ := hI2_
  refine hG_ ?_
  clear hG_
  rw [List.take_of_length_le (by (first | lia | omega))] at G
  have NC := G.done htc
  have g1 := G.same.trans (same_new htc (.lst (rc.map V.ref)))
  generalize upd H1 tc (.lst (rc.map V.ref)) = H2 at *
  have TC := NC.tab
  have lrc := pd_len TC.2
  have M2 := hM.mono g1
  have lP : (prodM k n M N).length = n := by unfold prodM; rw [List.length_map]; exact oM.len
  refine ⟨_, rfl, t1, rfl, ⟨_, SqL.of M2.1⟩, ?_⟩
  let Pv33_ : Nat → List V → Hp → Prop := fun i ys H' => ∃ ras2, ys = ras2.map V.ref ∧ Grow H2 H' ((prodM k n M N).take i) ras2
  refine comp_list (xs := r1.map V.ref) Pv33_ ⟨[], rfl, Grow.nil H2 (Same.refl H2)⟩ ?_ ?_ ?_
  · intro i ys H' hi hI4_
    refine hide fun _ hG_ => ?_
    obtain ⟨ras2, rfl, G⟩ := hI4_
    refine hG_ ?_
    clear hG_
    refine ⟨SqL.of (G.same _ _ M2.1), ?_⟩
    have := pd_len G.rows
    rw [List.length_take] at this
    rw [List.length_map]; (first | lia | omega)
  · intro i v ys H' hv hi hI6_
    refine hide fun _ hG_ => ?_
    obtain ⟨ras2, rfl, G⟩ := hI6_
    refine hG_ ?_
    clear hG_
    refine hide fun _ hG_ => ?_
    obtain ⟨row, a, hrow, ha, rfl, hR⟩ := (M2.mono G.same).row hv
    refine hG_ ?_
    clear hG_
    have orow := oM.row (List.mem_of_getElem? hrow)
    have C2 := TC.mono G.same
    first | refine gyes ?_ | refine tyes ?_
    have ep : (prodM k n M N)[i]? = some ((transp n N).map fun col => La.ndot k row col) := by unfold prodM; rw [List.getElem?_map, hrow]; rfl
    refine ⟨_, rfl, tc, rfl, ⟨_, SqL.of C2.1⟩, ?_⟩
    let Pv34_ : Nat → List V → Hp → Prop := fun l ys H6 => Same H' H6 ∧ Paired (RN H6) (((transp n N).map fun col => La.ndot k row col).take l) ys
    refine comp_list (xs := rc.map V.ref) Pv34_ ⟨Same.refl _, .nil⟩ ?_ ?_ ?_
    · rintro l ys H6 hl ⟨g6, pr⟩
      refine ⟨SqL.of (g6 _ _ C2.1), ?_⟩
      have := pd_len pr
      rw [List.length_take, List.length_map] at this
      rw [List.length_map] at hl; (first | lia | omega)
    · rintro l v ys H6 hv hl ⟨g6, pr⟩
      refine hide fun _ hG_ => ?_
      obtain ⟨col, b, hcol, hb, rfl, hB⟩ := (C2.mono g6).row hv
      refine hG_ ?_
      clear hG_
      have ocol := oT.row (List.mem_of_getElem? hcol)
      first | refine gyes ?_ | refine tyes ?_
      refine ⟨_, rfl, _, rfl, _, rfl, k, row, col, a, b, rfl, hk, hR.mono g6, hB, orow.ok, ocol.ok, (by rw [orow.len, ocol.len]), (by rw [orow.len]; (first | lia | omega)), orow.sz, ocol.sz, fun v7 H7 g7 r7 => nxt hl ⟨g6.trans g7, ?_⟩⟩
      have e : ((transp n N).map fun col => La.ndot k row col)[l]? = some (La.ndot k row col) := by rw [List.getElem?_map, hcol]; rfl
      rw [take_snoc e]
      exact pd_snoc (pd_rn g7 pr) r7
    · rintro ys H6 ⟨g6, pr⟩ p hp
      rw [List.length_map, List.take_of_length_le (by rw [List.length_map, lT]; (first | lia | omega))] at pr
      refine nxt hi ⟨ras2 ++ [p], by rw [List.map_append]; rfl, ?_⟩
      rw [take_snoc ep]
      exact (G.mono g6).snoc hp pr
  intro ys H3 hI2_ tp htp
  refine hide fun _ hG_ => ?_
  obtain ⟨rp, rfl, G3⟩ := hI2_
  refine hG_ ?_
  clear hG_
  rw [List.length_map, List.take_of_length_le (by (first | lia | omega))] at G3
  exact q tp rp _ (g1.trans (G3.same.trans (same_new htp _))) (G3.done htp).tab
/-! _law_is_table -/
inductive Sp_listab (vs : List V) (H : Hp) (Q : VK) : Prop where
  | mk (k : Int) (M : List (List Nb)) (n : Nat) (t : Addr) (ras : List Addr) (h0_ : vs = [.int k, .ref t, .int (n : Int)]) (h1_ : KindOk k) (h2_ : TabAt H M t ras) (h3_ : La.OkM k n M) (h4_ : M.length = n) (h5_ : ∀ H', Same H H' → Q (.bl true) H') : Sp_listab  vs H Q
noncomputable def sp_listab : Sp := fun vs H Q _ => Sp_listab  vs H Q
theorem kn_listab (D : Df K mg "_law_is_table" ["_law_kind_here", "_law_found", "_law_size"] s__law_is_table) (d__law_whole : Kn P w K mg base "_law_whole" 1 ["_law_found"] sp_whole) (d__law_lowest : Kn P w K mg base "_law_lowest" 41 ["_law_top", "_law_bottom"] sp_lowest) (m_isinstance : mg "isinstance" = none) (m_list : mg "list" = none) (m_tuple : mg "tuple" = none) (m_len : mg "len" = none) : Kn P w K mg base "_law_is_table" 42 ["_law_kind_here", "_law_found", "_law_size"] sp_listab := by
  refine D.kn sc__law_is_table (fun vs H Q E h => ?_) (fun f cdv A outer s H vs Q E hr h => ?_)
  · obtain ⟨k, M, n, t, ras, rfl, _⟩ := h; rfl
  refine hide fun _ hG_ => ?_
  obtain ⟨k, M, n, t, ras, rfl, hk, hT, oM, lM, q⟩ := h
  refine hG_ ?_
  clear hG_
  have kl := hk.lt
  have lr := pd_len hT.2
  rw [lM] at lr
  refine ⟨_, (pss_cons (ps_if (PW.pt (pw_or (pt_not (pt_val (pe_callB (call_isiK (K := K) rfl) rfl m_isinstance bb_isinstance (pa_cons (pv 1) (pa_cons (pe_ty rfl m_list bb_list) pa_nil))))) (pw_or1 (pt_cmpR op_ne (pe_callB call_len0 rfl m_len bb_len (pa_cons (pv 1) pa_nil)) (pv 2) (nomark _))))) (pss_one (ps_ret pe_bl)) pss_nil) (pss_cons (ps_for PassesOwn.never rfl (pi_list0 (pv 1)) (pg_name (i := 3) sc__law_is_table.nd rfl (by first | exact Or.inl rfl | exact Or.inr rfl)) (pss_cons (ps_if (PW.pt (pw_or (pt_not (pt_val (pe_callB (call_isiK (K := K) rfl) rfl m_isinstance bb_isinstance (pa_cons (pv 3) (pa_cons (pe_ty rfl m_list bb_list) pa_nil))))) (pw_or1 (pt_cmpR op_ne (pe_callB call_len0 rfl m_len bb_len (pa_cons (pv 3) pa_nil)) (pv 2) (nomark _))))) (pss_one (ps_ret pe_bl)) pss_nil) (pss_one (ps_for PassesOwn.never rfl (pi_list0 (pv 3)) (pg_name (i := 4) sc__law_is_table.nd rfl (by first | exact Or.inl rfl | exact Or.inr rfl)) (pss_cons (ps_if (PW.pt (pw_and (pt_cmpR op_gt (pv 0) pe_int (nomark _)) (pw_and1 (PW.pt (pw_or (pt_not (pt_val (pe_kn d__law_whole (hr.mono (by decide)) rfl (pa_cons (pv 4) pa_nil)))) (pw_or (pt_cmpR op_lt (pv 4) pe_int (nomark _)) (pw_or1 (pt_cmpR op_ge (pv 4) (pv 0) (nomark _))))))))) (pss_one (ps_ret pe_bl)) pss_nil) (pss_cons (ps_if (PW.pt (pw_and (pt_cmpR op_eq (pv 0) pe_int (nomark _)) (pw_and1 (PW.pt (pw_or (pt_not (pt_val (pe_callB (call_isiK (K := K) rfl) rfl m_isinstance bb_isinstance (pa_cons (pv 4) (pa_cons (pe_ty rfl m_tuple bb_tuple) pa_nil))))) (pw_or1 (pt_cmpR op_lt (pe_ix ix_tup0 (pv 4) pe_int (fun _ _ => rfl)) pe_int (nomark _)))))))) (pss_one (ps_ret pe_bl)) pss_nil) (pss_one (ps_if (PW.pt (pw_and (pt_cmpR op_eq (pv 0) pe_int (nomark _)) (pw_and1 (pt_cmpR (op_neD hr) (pe_kn d__law_lowest (hr.mono (by decide)) rfl (pa_cons (pe_ix ix_tup0 (pv 4) pe_int (fun _ _ => rfl)) (pa_cons (pe_ix ix_tup0 (pv 4) pe_int (fun _ _ => rfl)) pa_nil))) (pv 4) (nomark _))))) (pss_one (ps_ret pe_bl)) pss_nil)))))))) (pss_one (ps_ret pe_bl)))), ?_⟩
  refine ⟨_, rfl, _, _, _, _, rfl, TyOf.lst hT.1, kit_ll K, _, rfl, iteF ?_⟩
  refine ⟨_, rfl, t, _, rfl, .inl (SqL.of hT.1), _, rfl, rfl, _, rfl, ?_⟩
  rw [List.length_map, ← lr, decide_eq_true rfl]
  refine iteF ?_
  refine ⟨_, rfl, t, rfl, ⟨_, SqL.of hT.1⟩, ?_⟩
  let Pv35_ : Nat → L2.St → Hp → Prop := fun i σ H' => ∃ o3 o4, σ = [some (.int k), some (.ref t), some (.int (n : Int)), o3, o4] ∧ Same H H'
  refine for_list (xs := ras.map V.ref) Pv35_ ⟨none, none, rfl, Same.refl H⟩ ?_ ?_ ?_
  · intro i σ H' _ hI4_
    refine hide fun _ hG_ => ?_
    obtain ⟨o3, o4, rfl, g⟩ := hI4_
    refine hG_ ?_
    clear hG_
    exact SqL.of (g _ _ hT.1)
  · intro i v σ H' hv hI5_
    refine hide fun _ hG_ => ?_
    obtain ⟨o3, o4, rfl, g⟩ := hI5_
    refine hG_ ?_
    clear hG_
    refine hide fun _ hG_ => ?_
    obtain ⟨xs, a, hx, ha, rfl, hR⟩ := (hT.mono g).row hv
    refine hG_ ?_
    clear hG_
    obtain ⟨lx, ox⟩ := oM xs (List.mem_of_getElem? hx)
    refine hide fun _ hG_ => ?_
    obtain ⟨us, hu, pu, lu⟩ := hR.len
    refine hG_ ?_
    clear hG_
    refine ⟨_, rfl, _, _, _, _, rfl, TyOf.lst hu, kit_ll K, _, rfl, iteF ?_⟩
    refine ⟨_, rfl, a, us, rfl, .inl (SqL.of hu), _, rfl, rfl, _, rfl, ?_⟩
    rw [lu, lx, decide_eq_true rfl]
    refine iteF ?_
    refine ⟨_, rfl, a, rfl, ⟨_, SqL.of hu⟩, ?_⟩
    let Pv36_ : Nat → L2.St → Hp → Prop := fun l σ H2 => ∃ o4, σ = [some (.int k), some (.ref t), some (.int (n : Int)), some (.ref a), o4] ∧ Same H' H2
    refine for_list (xs := us) Pv36_ ⟨o4, rfl, Same.refl H'⟩ ?_ ?_ ?_
    · intro l σ H2 _ hI4_
      refine hide fun _ hG_ => ?_
      obtain ⟨o4, rfl, g2⟩ := hI4_
      refine hG_ ?_
      clear hG_
      exact SqL.of (g2 _ _ hu)
    · intro l v σ H2 hv2 hI5_
      refine hide fun _ hG_ => ?_
      obtain ⟨o4, rfl, g2⟩ := hI5_
      refine hG_ ?_
      clear hG_
      refine hide fun _ hG_ => ?_
      obtain ⟨x, hx2, rx0⟩ := pd_right pu hv2
      refine hG_ ?_
      clear hG_
      have rx := rx0.mono g2
      have o1 := ox x (List.mem_of_getElem? hx2)
      cases x with
      | q r =>
        refine hide fun _ hG_ => ?_
        obtain ⟨p, rfl, hp⟩ := rx.q
        refine hG_ ?_
        clear hG_
        have k0 : k = 0 := o1
        subst k0
        refine ⟨_, rfl, _, _, rfl, rfl, _, rfl, iteF (iteF ?_)⟩
        refine ⟨_, rfl, rfl, _, rfl, iteT ?_⟩
        refine ⟨_, rfl, _, _, _, _, rfl, TyOf.tup hp, kit_tt K, _, rfl, iteF ?_⟩
        refine ⟨_, rfl, p, _, _, _, rfl, rfl, SqT.of hp, rfl, _, _, rfl, rfl, _, rfl, ?_⟩
        rw [decide_eq_false (show ¬ (r.den : Int) < 1 by have := den_pos r; (first | lia | omega))]
        refine iteF ?_
        refine ⟨_, rfl, rfl, _, rfl, iteT ?_⟩
        refine ⟨_, rfl, p, _, _, _, rfl, rfl, SqT.of hp, rfl, _, rfl, p, _, _, _, rfl, rfl, SqT.of hp, rfl, _, _, rfl, den_pos r, fun p2 H3 g3 hp2 => ?_⟩
        rw [Rat.num_divInt_den] at hp2
        refine ⟨_, rfl, toD (.q r), toD (.q r), RN.of_q hp2, RN.of_q (g3 _ _ hp), toD_lay _, toD_lay _, Nat.le_trans (Nat.min_le_left _ _) (Nat.le_trans (toD_depth _) (by decide)), _, rfl, ?_⟩
        rw [toD_self]
        refine iteF ?_
        exact ⟨_, rfl, g2.trans g3⟩
      | z j =>
        refine hide fun _ hG_ => ?_
        obtain ⟨k0, j0, jk⟩ := o1
        refine hG_ ?_
        clear hG_
        rw [rx.z]
        refine ⟨_, rfl, _, _, rfl, rfl, _, rfl, ?_⟩
        rw [decide_eq_true (show 0 < k by (first | lia | omega))]
        refine iteT ?_
        refine ⟨_, rfl, j, rfl, _, rfl, iteF ?_⟩
        refine ⟨_, rfl, _, _, rfl, rfl, _, rfl, ?_⟩
        rw [decide_eq_false (show ¬ j < 0 by (first | lia | omega))]
        refine iteF ?_
        refine ⟨_, rfl, _, rfl, _, _, rfl, rfl, _, rfl, ?_⟩
        rw [decide_eq_false (show ¬ k ≤ j by (first | lia | omega))]
        refine iteF ?_
        refine ⟨_, rfl, rfl, _, rfl, ?_⟩
        rw [decide_eq_false (show ¬ V.int k = V.int 0 from fun z => k0 (V.int.inj z))]
        refine iteF (iteF ?_)
        refine ⟨_, rfl, rfl, _, rfl, ?_⟩
        rw [decide_eq_false (show ¬ V.int k = V.int 0 from fun z => k0 (V.int.inj z))]
        refine iteF (iteF ?_)
        exact ⟨_, rfl, g2⟩
    · intro σ H2 hI2_
      refine hide fun _ hG_ => ?_
      obtain ⟨o4, rfl, g2⟩ := hI2_
      refine hG_ ?_
      clear hG_
      exact ⟨_, _, rfl, g.trans g2⟩
  · intro σ H' hI2_
    refine hide fun _ hG_ => ?_
    obtain ⟨o3, o4, rfl, g⟩ := hI2_
    refine hG_ ?_
    clear hG_
    exact q H' g
--SPLIT
/-! _law_refused -/
theorem bb_ValueError : bootBuiltins "ValueError" = some (.type "ValueError") := by decide +kernel
theorem redB6 {n : Nat} (h : n ≤ 4) : redB (n + n) 14 ≤ 36096 := by
  rcases (show n = 0 ∨ n = 1 ∨ n = 2 ∨ n = 3 ∨ n = 4 by (first | lia | omega)) with e | e | e | e | e <;> rw [e] <;> decide
inductive Sp_lrefused (vs : List V) (H : Hp) (Q : VK) : Prop where
  | mk (k : Int) (M : List (List Nb)) (n : Nat) (t : Addr) (ras : List Addr) (h0_ : vs = [.int k, .ref t]) (h1_ : KindOk k) (h2_ : TabAt H M t ras) (h3_ : TOk k n n 14 M) (h4_ : n ≤ 4) (h5_ : (∀ R ls, (∀ (F : Type) [Lean.Grind.Field F] (φ : La.Kf k F), La.RedOf φ (n + n) (La.besideM k n M) R ls) → R.map (List.take n) ≠ La.unitM k n)) (h6_ : ∀ H', Same H H' → Q (.bl true) H') : Sp_lrefused  vs H Q
noncomputable def sp_lrefused : Sp := fun vs H Q _ => Sp_lrefused  vs H Q
theorem kn_lrefused {C B D1 D2 D3 : Addr} (X0 : Exs K mg C B D1 D2 D3) (D : Df K mg "_law_refused" ["_law_kind_here", "_law_table_here"] s__law_refused) (d_back : Kx P w K mg base "back" 46 ["kind", "table"] (sp_back C)) (m_isinstance : mg "isinstance" = none) (m_ValueError : mg "ValueError" = none) : Kn P w K mg base "_law_refused" 47 ["_law_kind_here", "_law_table_here"] sp_lrefused := by
  refine D.kn sc__law_refused (fun vs H Q E h => ?_) (fun f cdv A outer s H vs Q E hr h => ?_)
  · obtain ⟨k, M, n, t, ras, rfl, _⟩ := h; rfl
  refine hide fun _ hG_ => ?_
  obtain ⟨k, M, n, t, ras, rfl, hk, hT, oM, n4, hne, q⟩ := h
  refine hG_ ?_
  clear hG_
  have szl : sizeLine = 16777216 := by decide
  have rB := redB6 n4
  have m_MillError := X0.b
  have eb := X0.eb
  have m_NoText := X0.d1
  have m_NoName := X0.d2
  have m_NoRow := X0.d3
  have m_NoBack := X0.c.bound
  refine ⟨_, (pss_cons (ps_set (i := 2) sc__law_refused.nd rfl (by first | exact Or.inl rfl | exact Or.inr rfl) pe_non) (pss_cons (ps_tryA (i := 3) d_back (hr.mono (by decide)) rfl m_MillError eb rfl (pa_cons (pv 0) (pa_cons (pv 1) pa_nil)) sc__law_refused.nd rfl rfl (fun _ => (pss_one (ps_set (i := 2) sc__law_refused.nd rfl (by first | exact Or.inl rfl | exact Or.inr rfl) (pv 3))))) (pss_cons (ps_if (pt_val (pe_callB (call_isiTK (K := K) rfl) rfl m_isinstance bb_isinstance (pa_cons (pv 2) (pa_cons (pe_tup (pa_cons (pe_glob (v := .ref D1) rfl m_NoText rfl) (pa_cons (pe_glob (v := .ref D2) rfl m_NoName rfl) (pa_cons (pe_glob (v := .ref D3) rfl m_NoRow rfl) pa_nil)))) pa_nil)))) (pss_one (ps_ret pe_bl)) pss_nil) (pss_one (ps_ret (pe_and (pe_callB (call_isiEK (K := K) rfl) rfl m_isinstance bb_isinstance (pa_cons (pv 2) (pa_cons (pe_glob (v := .ref C) rfl m_NoBack rfl) pa_nil))) (pe_one (pe_callB (call_isiEK (K := K) rfl) rfl m_isinstance bb_isinstance (pa_cons (pv 2) (pa_cons (pe_ty rfl m_ValueError bb_ValueError) pa_nil)))))))))), ?_⟩
  refine ⟨_, rfl, _, rfl, k, M, n, 14, t, ras, rfl, hk, hT, oM, (by (first | lia | omega)), (by decide), (by (first | lia | omega)), fun R ls H1 g1 red sz => ⟨fun ne => ⟨rfl, fun a ha => ?_⟩, fun eU => absurd eU (hne R ls red)⟩⟩
  refine ⟨_, rfl, ?_⟩
  have g2 := same_new ha (.ext (ExAt a C))
  have hx : upd H1 a (.ext (ExAt a C)) a = some (.ext (ExAt a C)) := upd_same
  generalize upd H1 a (.ext (ExAt a C)) = H2 at *
  refine ⟨_, rfl, (by show 3 ≤ sizeLine; decide), fun p hp => ?_⟩
  have g3 := same_new hp (.tup [.ref D1, .ref D2, .ref D3])
  have hp3 : upd H2 p (.tup [.ref D1, .ref D2, .ref D3]) p = some (.tup ([D1, D2, D3].map V.ref)) := upd_same
  generalize upd H2 p (.tup [.ref D1, .ref D2, .ref D3]) = H3 at *
  have hx3 := g3 _ _ hx
  refine ⟨a, C, p, [D1, D2, D3], false, rfl, hx3, X0.ek, hp3, X0.no, _, rfl, iteF ?_⟩
  refine ⟨_, rfl, a, C, .ref C, .ref C, true, rfl, hx3, X0.ek, (fun u hu => hu), (by unfold PySem.W.kitOne; rw [if_pos (by simp)]), _, rfl, iteT ?_⟩
  exact ⟨_, rfl, a, C, .ty "ValueError", .type "ValueError", true, rfl, hx3, X0.ek, (fun u hu => hu), X0.ve, q H3 ((g1.trans g2).trans g3)⟩
--SPLIT
/-! _law_rank -/
noncomputable def szR : Nat → Nat
  | 0 => 14
  | r + 1 => (szR r + szR r) + (szR r + szR r) + 1
theorem szR_lo : ∀ r, 14 ≤ szR r
  | 0 => by decide
  | r + 1 => by have := szR_lo r; simp only [szR]; (first | lia | omega)
theorem szR_hi {r : Nat} (h : r ≤ 4) : szR r ≤ 4000 := by
  rcases (show r = 0 ∨ r = 1 ∨ r = 2 ∨ r = 3 ∨ r = 4 by (first | lia | omega)) with e | e | e | e | e <;> rw [e] <;> decide
theorem pd_appL {α β : Type} {R : α → β → Prop} : ∀ {xs ys : List α} {zs : List β}, Paired R (xs ++ ys) zs → ∃ z1 z2, zs = z1 ++ z2 ∧ Paired R xs z1 ∧ Paired R ys z2
  | [], ys, zs, h => ⟨[], zs, rfl, .nil, h⟩
  | x :: xs, ys, _, .cons r t => by
    obtain ⟨z1, z2, e, p1, p2⟩ := pd_appL (xs := xs) t
    exact ⟨_ :: z1, z2, by rw [e]; rfl, .cons r p1, p2⟩
theorem el_sz {k : Int} (hk : KindOk k) {m j n : Nat} {x y : List Nb} (m7 : 7 ≤ m) (hj : j < n) (ox : ROk k n m x) (oy : ROk k n m y) : ∀ z ∈ elR k j x y, nsm ((m + m) + (m + m) + 1) z := fun z hz => by
  have cx := La.getD_okN ox.ok (show j < x.length by rw [ox.len]; exact hj)
  have cy := La.getD_okN oy.ok (show j < y.length by rw [oy.len]; exact hj)
  have sx : nsm m (x.getD j (.z 0)) := ox.sz _ (by rw [List.getD_eq_getElem?_getD, List.getElem?_eq_getElem (show j < x.length by rw [ox.len]; exact hj)]; exact List.getElem_mem _)
  have sy : nsm m (y.getD j (.z 0)) := oy.sz _ (by rw [List.getD_eq_getElem?_getD, List.getElem?_eq_getElem (show j < y.length by rw [oy.len]; exact hj)]; exact List.getElem_mem _)
  unfold elR at hz
  obtain ⟨i, hi, rfl⟩ := List.getElem_of_mem hz
  rw [List.getElem_zipWith, List.getElem_map, List.getElem_map]
  have a1 := oy.ok _ (List.getElem_mem (l := y) (n := i) (by simp [elR] at hi; (first | lia | omega)))
  have a2 := ox.ok _ (List.getElem_mem (l := x) (n := i) (by simp [elR] at hi; (first | lia | omega)))
  have b1 := oy.sz _ (List.getElem_mem (l := y) (n := i) (by simp [elR] at hi; (first | lia | omega)))
  have b2 := ox.sz _ (List.getElem_mem (l := x) (n := i) (by simp [elR] at hi; (first | lia | omega)))
  exact nsub_sm hk (La.zmul_ok hk cx a1) (La.zmul_ok hk cy a2) (nmul_sm hk cx a1 sx b1 m7) (nmul_sm hk cy a2 sy b2 m7) (by (first | lia | omega))
theorem tab_new {H : Hp} {R : List (List Nb)} {t : Addr} {ras : List Addr} {zs : List V} (ht : H t = some (.lst zs)) (h : Paired (RowAt H) R ras) (nt : t ∉ ras) : TabAt (upd H t (.lst (ras.map V.ref))) R t ras :=
  ⟨upd_same, pd_of (pd_len h) fun i x a h1 h2 => (pd_get h h1 h2).upd (fun e => nt (by rw [← e]; exact List.mem_of_getElem? h2)) ht⟩
theorem pd_upd {H : Hp} {R : List (List Nb)} {t : Addr} {ras : List Addr} {zs zs' : List V} (h : Paired (RowAt H) R ras) (nt : t ∉ ras) (ht : H t = some (.lst zs)) : Paired (RowAt (upd H t (.lst zs'))) R ras :=
  pd_of (pd_len h) fun i x a h1 h2 => (pd_get h h1 h2).upd (fun e => nt (by rw [← e]; exact List.mem_of_getElem? h2)) ht
theorem erase_mid {ru r1 r2 : List Addr} {a : Addr} {r p : Nat} (h1 : r = ru.length) (h2 : p = r1.length) : ((ru ++ (r1 ++ a :: r2)).map V.ref).eraseIdx (r + p) = (ru ++ (r1 ++ r2)).map V.ref := by
  subst h1 h2
  simp only [List.map_append, List.map_cons]
  rw [List.eraseIdx_append_of_length_le (by simp), List.eraseIdx_append_of_length_le (by simp)]
  simp
theorem insert_mid {ru rl : List Addr} {a : Addr} {r : Nat} (h1 : r = ru.length) : ((ru ++ rl).map V.ref).take r ++ V.ref a :: ((ru ++ rl).map V.ref).drop r = (ru ++ a :: rl).map V.ref := by
  subst h1
  simp [List.take_append, List.drop_append]
theorem el_snoc {k : Int} {j m : Nat} {x y : List Nb} {Up Lw : List (List Nb)} {r : Nat} (hr : Up.length = r) (hy : Lw[m]? = some y) :
    (Up ++ x :: ((Lw.take m).map (elR k j x) ++ Lw.drop m)).set (r + 1 + m) (elR k j x y) = Up ++ x :: ((Lw.take (m + 1)).map (elR k j x) ++ Lw.drop (m + 1)) := by
  have hm := (List.getElem?_eq_some_iff.mp hy).1
  have ed : Lw.drop m = y :: Lw.drop (m + 1) := by
    rw [List.drop_eq_getElem_cons hm]
    have := List.getElem?_eq_getElem hm
    rw [hy] at this
    rw [← Option.some.inj this]
  rw [List.set_append_right _ _ (by (first | lia | omega)), hr, show r + 1 + m - r = m + 1 by (first | lia | omega), List.set_cons_succ, List.set_append_right _ _ (by simp; (first | lia | omega)), take_snoc hy, List.map_append, ed]
  simp [Nat.min_eq_left (Nat.le_of_lt hm)]
theorem el_get {k : Int} {j m : Nat} {x y : List Nb} {Up Lw : List (List Nb)} {r : Nat} (hr : Up.length = r) (hy : Lw[m]? = some y) : (Up ++ x :: ((Lw.take m).map (elR k j x) ++ Lw.drop m))[r + 1 + m]? = some y := by
  have hm := (List.getElem?_eq_some_iff.mp hy).1
  rw [List.getElem?_append_right (by (first | lia | omega)), hr, show r + 1 + m - r = m + 1 by (first | lia | omega), List.getElem?_cons_succ, List.getElem?_append_right (by simp; (first | lia | omega)), List.getElem?_drop]
  simp [Nat.min_eq_left (Nat.le_of_lt hm)]
  exact hy
inductive Sp_lrank (vs : List V) (H : Hp) (Q : VK) : Prop where
  | mk (k : Int) (M : List (List Nb)) (n : Nat) (t : Addr) (ras : List Addr) (h0_ : vs = [.int k, .ref t]) (h1_ : KindOk k) (h2_ : TabAt H M t ras) (h3_ : TOk k n n 14 M) (h4_ : 1 ≤ n) (h5_ : n ≤ 4) (h6_ : ∀ (r : Nat) H', Same H H' → (r < n → ∀ R ls, (∀ (F : Type) [Lean.Grind.Field F] (φ : La.Kf k F), La.RedOf φ (n + n) (La.besideM k n M) R ls) → R.map (List.take n) ≠ La.unitM k n) → (¬ r < n → ∀ R ls, (∀ (F : Type) [Lean.Grind.Field F] (φ : La.Kf k F), La.RedOf φ (n + n) (La.besideM k n M) R ls) → R.map (List.take n) = La.unitM k n) → Q (.int (r : Int)) H') : Sp_lrank  vs H Q
noncomputable def sp_lrank : Sp := fun vs H Q _ => Sp_lrank  vs H Q
theorem kn_lrank (D : Df K mg "_law_rank" ["_law_kind_here", "_law_table_here"] s__law_rank) (d__law_number : Kn P w K mg base "_law_number" 42 ["_law_kind_here", "_law_drawn"] sp_lnumber) (d__law_times : Kn P w K mg base "_law_times" 42 ["_law_kind_here", "_law_one", "_law_other"] (sp_bin nmul)) (d__law_less : Kn P w K mg base "_law_less" 42 ["_law_kind_here", "_law_one", "_law_other"] (sp_bin nsub)) (m_list : mg "list" = none) (m_range : mg "range" = none) (m_len : mg "len" = none) (m_zip : mg "zip" = none) : Kn P w K mg base "_law_rank" 43 ["_law_kind_here", "_law_table_here"] sp_lrank := by
  refine D.kn sc__law_rank (fun vs H Q E h => ?_) (fun f cdv A' outer s' H vs Q E hr h => ?_)
  · obtain ⟨k, M, n, t, ras, rfl, _⟩ := h; rfl
  refine hide fun _ hG_ => ?_
  obtain ⟨k, M, n, t, ras, rfl, hk, hT, oM, n1, n4, q⟩ := h
  refine hG_ ?_
  clear hG_
  have szl : sizeLine = 16777216 := by decide
  refine ⟨_, (pss_cons (ps_setC (i := 2) sc__law_rank.nd rfl rfl ["_law_row"] [] [] ⟨rfl, rfl, rfl, rfl, rfl, rfl, by decide +kernel⟩ rfl (pi_list0 (pv 1)) (gown_name (by decide)) fun _ _ _ _ _ _ => ⟨(pg_name (i := 0) (by decide : (["_law_row"] : List Str).Nodup) rfl (by first | exact Or.inl rfl | exact Or.inr rfl)), pts_nil, (pe_callTy call_list0 rfl m_list bb_list (pa_cons (pv 0) pa_nil))⟩) (pss_cons (ps_set (i := 3) sc__law_rank.nd rfl (by first | exact Or.inl rfl | exact Or.inr rfl) pe_int) (pss_cons (ps_for PassesOwn.never rfl (pi_range1 rfl m_range (pa_cons (pe_callB call_len0 rfl m_len bb_len (pa_cons (pe_ix ix_list0 (pv 2) pe_int (fun _ _ => rfl)) pa_nil)) pa_nil)) (pg_name (i := 4) sc__law_rank.nd rfl (by first | exact Or.inl rfl | exact Or.inr rfl)) (pss_cons (ps_set (i := 5) sc__law_rank.nd rfl (by first | exact Or.inl rfl | exact Or.inr rfl) (pv 3)) (pss_cons (ps_while PassesOwn.never (PW.pt (pw_and (pt_cmpR op_lt (pv 5) (pe_callB call_len0 rfl m_len bb_len (pa_cons (pv 2) pa_nil)) (nomark _)) (pw_and1 (pt_cmpR (op_eqD hr) (pe_ix ix_list0 (pe_ix ix_list0 (pv 2) (pv 5) (fun _ _ => rfl)) (pv 4) (fun _ _ => rfl)) (pe_kn d__law_number (hr.mono (by decide)) rfl (pa_cons (pv 0) (pa_cons pe_int pa_nil))) (nomark _))))) (pss_one (ps_set (i := 5) sc__law_rank.nd rfl (by first | exact Or.inl rfl | exact Or.inr rfl) (pe_op op_add (pv 5) pe_int)))) (pss_one (ps_if (pt_cmpR op_lt (pv 5) (pe_callB call_len0 rfl m_len bb_len (pa_cons (pv 2) pa_nil)) (nomark _)) (pss_cons (ps_set (i := 6) sc__law_rank.nd rfl (by first | exact Or.inl rfl | exact Or.inr rfl) (bm0 (fun _ h => pe_bm PySem.F.plainAttrs_list PySem.F.slot_list_pop PySem.F.type_list_pop mt_popAt h (pa_cons (pv 5) pa_nil)) (pv 2))) (pss_cons (ps_expr (bm0 (fun _ h => pe_bm PySem.F.plainAttrs_list PySem.F.slot_list_insert PySem.F.type_list_insert mt_insert h (pa_cons (pv 3) (pa_cons (pv 6) pa_nil))) (pv 2))) (pss_cons (ps_for PassesOwn.never rfl (pi_range2 rfl m_range (pa_cons (pe_op op_add (pv 3) pe_int) (pa_cons (pe_callB call_len0 rfl m_len bb_len (pa_cons (pv 2) pa_nil)) pa_nil))) (pg_name (i := 7) sc__law_rank.nd rfl (by first | exact Or.inl rfl | exact Or.inr rfl)) (pss_cons (ps_set (i := 8) sc__law_rank.nd rfl (by first | exact Or.inl rfl | exact Or.inr rfl) (pe_ix ix_list0 (pe_ix ix_list0 (pv 2) (pv 7) (fun _ _ => rfl)) (pv 4) (fun _ _ => rfl))) (pss_cons (ps_setC (i := 9) sc__law_rank.nd rfl rfl ["_law_x"] ["_law_kind_here", "_law_top", "_law_j"] [0, 6, 4] ⟨rfl, rfl, rfl, rfl, rfl, rfl, by decide +kernel⟩ rfl (pi_list0 (pe_ix ix_list0 (pv 2) (pv 7) (fun _ _ => rfl))) (gown_name (by decide)) fun _ _ _ _ _ _ => ⟨(pg_name (i := 0) (by decide : (["_law_x", "_law_kind_here", "_law_top", "_law_j"] : List Str).Nodup) rfl (by first | exact Or.inl rfl | exact Or.inr rfl)), pts_nil, (pe_kn d__law_times (hr.mono (by decide)) rfl (pa_cons (pv 1) (pa_cons (pe_ix ix_list0 (pv 2) (pv 3) (fun _ _ => rfl)) (pa_cons (pv 0) pa_nil))))⟩) (pss_cons (ps_setC (i := 10) sc__law_rank.nd rfl rfl ["_law_x"] ["_law_kind_here", "_law_by"] [0, 8] ⟨rfl, rfl, rfl, rfl, rfl, rfl, by decide +kernel⟩ rfl (pi_list0 (pv 6)) (gown_name (by decide)) fun _ _ _ _ _ _ => ⟨(pg_name (i := 0) (by decide : (["_law_x", "_law_kind_here", "_law_by"] : List Str).Nodup) rfl (by first | exact Or.inl rfl | exact Or.inr rfl)), pts_nil, (pe_kn d__law_times (hr.mono (by decide)) rfl (pa_cons (pv 1) (pa_cons (pv 2) (pa_cons (pv 0) pa_nil))))⟩) (pss_one (ps_asg (pe_comp ["_law_x", "_law_y"] ["_law_kind_here"] [0] ⟨rfl, rfl, rfl, rfl, rfl, rfl, by decide +kernel⟩ rfl (pi_zip0 rfl m_zip (pa_cons (pv 9) (pa_cons (pv 10) pa_nil))) (gown_tup (gowns_cons (gown_name (by decide)) gmono_name (gowns_cons (gown_name (by decide)) gmono_name gowns_nil))) fun _ _ _ _ _ _ => ⟨(pg_tup0 2 rfl (pgs_cons (pg_name (i := 0) (by decide : (["_law_x", "_law_y", "_law_kind_here"] : List Str).Nodup) rfl (by first | exact Or.inl rfl | exact Or.inr rfl)) (pgs_cons (pg_name (i := 1) (by decide : (["_law_x", "_law_y", "_law_kind_here"] : List Str).Nodup) rfl (by first | exact Or.inl rfl | exact Or.inr rfl)) pgs_nil))), pts_nil, (pe_kn d__law_less (hr.mono (by decide)) rfl (pa_cons (pv 2) (pa_cons (pv 0) (pa_cons (pv 1) pa_nil))))⟩) (pg_sub (pv 2) (pv 7) set_list))))))) (pss_one (ps_set (i := 3) sc__law_rank.nd rfl (by first | exact Or.inl rfl | exact Or.inr rfl) (pe_op op_add (pv 3) pe_int)))))) pss_nil))))) (pss_one (ps_ret (pv 3)))))), ?_⟩
  have lr := pd_len hT.2
  rw [oM.len] at lr
  refine hide fun _ hG_ => ?_
  obtain ⟨F0, i0, d0, ⟨φ⟩⟩ := La.field_of hk
  refine hG_ ?_
  clear hG_
  have zer : φ.to (nnum k 0) = 0 := by rw [φ.num]; exact (φ.zero 0).mpr ⟨0, by simp⟩
  -- a copy
  refine ⟨_, rfl, t, rfl, ⟨_, SqL.of hT.1⟩, comp_copy hT (by rw [oM.len]; (first | lia | omega)) (fun a us H' Q h q => ⟨_, rfl, a, _, rfl, .inl (SqL.of h), q⟩) fun r2 H1 G1 tr htr => ?_⟩
  have N1 := G1.done htr
  have g1 := G1.same.trans (same_new htr (.lst (r2.map V.ref)))
  have ftr : H tr = none := G1.same.none htr
  generalize upd H1 tr (.lst (r2.map V.ref)) = H2 at *
  have T2 := N1.tab
  have nt2 := N1.nt
  clear N1 G1 htr
  have l2 := pd_len T2.2
  rw [oM.len] at l2
  obtain ⟨c0, r2', e0⟩ : ∃ c0 r2', r2 = c0 :: r2' := by
    cases r2 with
    | nil => rw [List.length_nil] at l2; (first | lia | omega)
    | cons a b => exact ⟨a, b, rfl⟩
  obtain ⟨m0, hm0, hc0⟩ := pd_right T2.2 (i := 0) (b := c0) (by rw [e0]; rfl)
  refine hide fun _ hG_ => ?_
  obtain ⟨u0, hu0, pu0, lu0⟩ := hc0.len
  refine hG_ ?_
  clear hG_
  have lm0 := (oM.ok m0 (List.mem_of_getElem? hm0)).1
  refine ⟨_, rfl, tr, _, _, _, rfl, rfl, SqL.of T2.1, (by rw [e0]; exact atI_nat (j := 0) rfl), c0, _, rfl, .inl (SqL.of hu0), n, (by rw [lu0, lm0]), (by (first | lia | omega)), (by (first | lia | omega)), ?_⟩
  rw [Int.toNat_natCast]
  let Pv37_ : Nat → L2.St → Hp → Prop := fun j σ H' => ∃ Up Lo ls ras o4 o5 o6 o7 o8 o9 o10, σ = [some (.int k), some (.ref t), some (.ref tr), some (.int (Up.length : Int)), o4, o5, o6, o7, o8, o9, o10] ∧ Same H H' ∧ TabAt H' (Up ++ Lo) tr ras ∧ tr ∉ ras ∧ (Up ++ Lo).length = n ∧ Rk φ n M j ls Up Lo ∧ szM (szR Up.length) (Up ++ Lo) ∧ Up.length ≤ j
  refine for_range (lo := 0) (n := n) Pv37_ ⟨[], M, [], r2, none, none, none, none, none, none, none, rfl, g1, T2, nt2, oM.len, Rk.start oM.ok, oM.sz, Nat.zero_le _⟩ ?_ ?_
  rotate_left
  · intro σ H' hI2_
    refine hide fun _ hG_ => ?_
    obtain ⟨Up, Lo, ls, ras, o4, o5, o6, o7, o8, o9, o10, rfl, g, hR, nt, lUL, rk, sz, _⟩ := hI2_
    refine hG_ ?_
    clear hG_
    rw [List.length_append] at lUL
    refine ⟨_, rfl, q Up.length H' g (fun lt R ls' red => ?_) fun nlt R ls' red => ?_⟩
    · exact La.less_not hk oM.ok oM.len rk.okU lt rk.less (red F0 φ)
    · exact La.full_ones hk oM.ok oM.len (red F0 φ) (rk.full (by (first | lia | omega)))
  intro j σ H3 hj hI4_
  refine hide fun _ hG_ => ?_
  obtain ⟨Up, Lo, ls, ras3, o4, o5, o6, o7, o8, o9, o10, rfl, g3, T3, nt3, lUL, rk, sz, rj⟩ := hI4_
  refine hG_ ?_
  clear hG_
  rw [Int.zero_add]
  clear T2 nt2 l2 e0 hm0 hc0 hu0 pu0 lu0 lm0 g1
  have lr3 := pd_len T3.2
  rw [lUL] at lr3
  have okUL : La.OkM k n (Up ++ Lo) := fun r hr => (List.mem_append.mp hr).elim (rk.okU r) (rk.okL r)
  have rowOk : ∀ x ∈ Up ++ Lo, ROk k n (szR Up.length) x := fun x hx => ⟨(okUL x hx).1, (okUL x hx).2, sz x hx⟩
  generalize hr' : Up.length = r at *
  have r4 : szR r ≤ 4000 := szR_hi (by (first | lia | omega))
  have r14 := szR_lo r
  have lLo : Lo.length + r = n := by rw [List.length_append, hr'] at lUL; (first | lia | omega)
  refine ⟨_, rfl, ?_⟩
  -- the first row below that is not nought there
  let Wv38_ : Nat → L2.St → Hp → Prop := fun m σ H' => ∃ p : Nat, σ = [some (.int k), some (.ref t), some (.ref tr), some (.int (r : Int)), some (.int (j : Int)), some (.int ((r + p : Nat) : Int)), o6, o7, o8, o9, o10] ∧ Same H3 H' ∧ p ≤ Lo.length ∧ (∀ (i : Nat) (y : List Nb), i < p → Lo[i]? = some y → La.nv φ y j = 0) ∧ m = Lo.length - p
  refine ⟨Wv38_, ⟨_, 0, rfl, Same.refl _, Nat.zero_le _, fun i y hi => absurd hi (Nat.not_lt_zero i), rfl⟩, ?_⟩
  intro m σ H4 hI3_
  refine hide fun _ hG_ => ?_
  obtain ⟨p, rfl, g4, pl, hz, rfl⟩ := hI3_
  refine hG_ ?_
  clear hG_
  have T4 := T3.mono g4
  refine ⟨_, rfl, _, rfl, tr, _, rfl, .inl (SqL.of T4.1), _, _, rfl, rfl, _, rfl, ?_⟩
  rw [List.length_map, ← lr3]
  rcases Nat.lt_or_ge p Lo.length with hp | hp
  rotate_left
  · -- none
    have ep : p = Lo.length := by (first | lia | omega)
    rw [decide_eq_false (show ¬ ((r + p : Nat) : Int) < (n : Int) by (first | lia | omega))]
    refine iteF (iteF ?_)
    refine ⟨_, rfl, _, rfl, tr, _, rfl, .inl (SqL.of T4.1), _, _, rfl, rfl, _, rfl, ?_⟩
    rw [List.length_map, ← lr3, decide_eq_false (show ¬ ((r + p : Nat) : Int) < (n : Int) by (first | lia | omega))]
    refine iteF ?_
    refine ⟨Up, Lo, ls, ras3, _, _, _, _, _, _, _, by rw [hr'], g3.trans g4, T4, nt3, lUL, rk.skip fun x hx => ?_, by rw [hr']; exact sz, by (first | lia | omega)⟩
    refine hide fun _ hG_ => ?_
    obtain ⟨i, hi, rfl⟩ := List.getElem_of_mem hx
    refine hG_ ?_
    clear hG_
    exact hz i _ (by (first | lia | omega)) (List.getElem?_eq_getElem hi)
  rw [decide_eq_true (show ((r + p : Nat) : Int) < (n : Int) by (first | lia | omega))]
  refine iteT ?_
  obtain ⟨x, ex⟩ : ∃ x, Lo[p]? = some x := ⟨_, List.getElem?_eq_getElem hp⟩
  have exU : (Up ++ Lo)[r + p]? = some x := by rw [List.getElem?_append_right (by (first | lia | omega)), hr', Nat.add_sub_cancel_left]; exact ex
  have ox := rowOk x (List.mem_of_getElem? exU)
  refine hide fun _ hG_ => ?_
  obtain ⟨a, ea, hra⟩ := pd_left T4.2 exU
  refine hG_ ?_
  clear hG_
  refine hide fun _ hG_ => ?_
  obtain ⟨us, hus, pus, lus⟩ := hra.len
  refine hG_ ?_
  clear hG_
  obtain ⟨y, ey⟩ : ∃ y, x[j]? = some y := ⟨_, List.getElem?_eq_getElem (by rw [ox.len]; exact hj)⟩
  refine hide fun _ hG_ => ?_
  obtain ⟨vy, evy, rvy⟩ := pd_left pus ey
  refine hG_ ?_
  clear hG_
  have nvx : La.nv φ x j = φ.to y := La.nv_get φ ey
  refine ⟨_, rfl, _, rfl, tr, _, _, .ref a, rfl, rfl, SqL.of T4.1, atI_nat (by rw [List.getElem?_map, ea]; rfl), _, rfl, a, _, _, vy, rfl, rfl, SqL.of hus, atI_nat evy, _, rfl, k, 0, rfl, hk, fun v0 H5 g5 r5 => ?_⟩
  rw [numF_zero hk] at r5
  refine ⟨toD y, toD (nnum k 0), rvy.mono g5, r5, toD_lay _, toD_lay _, Nat.le_trans (Nat.min_le_left _ _) (Nat.le_trans (toD_depth _) (by decide)), _, rfl, ?_⟩
  rw [toD_eqv]
  have g45 := g4.trans g5
  by_cases hy : y = nnum k 0
  · rw [decide_eq_true hy]
    refine iteT ⟨_, fun _ _ h => h, ?_⟩
    refine ⟨_, rfl, _, _, rfl, rfl, _, (by (first | lia | omega)), p + 1, rfl, g45, (by (first | lia | omega)), fun i z hi ez => ?_, rfl⟩
    rcases Nat.lt_succ_iff_lt_or_eq.mp hi with c | c
    · exact hz i z c ez
    · rw [c, ex] at ez
      cases ez
      rw [nvx, hy]; exact zer
  rw [decide_eq_false hy]
  refine iteF ?_
  have ne : La.nv φ x j ≠ 0 := fun e => hy (φ.inj (ox.ok y (List.mem_of_getElem? ey)) (La.nnum_ok hk 0) (by rw [← nvx, e, zer]))
  have T5 := T3.mono g45
  refine ⟨_, rfl, _, rfl, tr, _, rfl, .inl (SqL.of T5.1), _, _, rfl, rfl, _, rfl, ?_⟩
  rw [List.length_map, ← lr3, decide_eq_true (show ((r + p : Nat) : Int) < (n : Int) by (first | lia | omega))]
  refine iteT ?_
  -- it goes up
  clear T4 hra hus pus lus rvy r5 evy nvx hz
  obtain ⟨La1, Lb2, eLo, lL1⟩ : ∃ La1 Lb2, Lo = La1 ++ x :: Lb2 ∧ La1.length = p := by
    have ed : Lo.drop p = x :: Lo.drop (p + 1) := by
      rw [List.drop_eq_getElem_cons hp]
      have := List.getElem?_eq_getElem hp
      rw [ex] at this
      rw [← Option.some.inj this]
    exact ⟨Lo.take p, Lo.drop (p + 1), by rw [← ed, List.take_append_drop], by rw [List.length_take]; (first | lia | omega)⟩
  subst eLo
  refine hide fun _ hG_ => ?_
  obtain ⟨ru, rl, rfl, pU, pL⟩ := pd_appL T5.2
  refine hG_ ?_
  clear hG_
  refine hide fun _ hG_ => ?_
  obtain ⟨r1, rx, rfl, p1, px⟩ := pd_appL pL
  refine hG_ ?_
  clear hG_
  obtain ⟨a', ras4, rfl, hra', p2⟩ : ∃ a' r4, rx = a' :: r4 ∧ RowAt H5 x a' ∧ Paired (RowAt H5) Lb2 r4 := by
    cases px with
    | cons r t => exact ⟨_, _, rfl, r, t⟩
  have lru := pd_len pU
  rw [hr'] at lru
  have lr1 := pd_len p1
  rw [lL1] at lr1
  have nt5 : tr ∉ ru ++ (r1 ++ a' :: ras4) := nt3
  have nt6 : tr ∉ ru ++ (r1 ++ ras4) := fun h => nt5 (by
    rcases List.mem_append.mp h with c | c
    · exact List.mem_append_left _ c
    · rcases List.mem_append.mp c with c | c
      · exact List.mem_append_right _ (List.mem_append_left _ c)
      · exact List.mem_append_right _ (List.mem_append_right _ (List.mem_cons_of_mem _ c)))
  have na : tr ≠ a' := fun e => nt5 (by rw [e]; exact List.mem_append_right _ (List.mem_append_right _ List.mem_cons_self))
  have nt7 : tr ∉ ru ++ a' :: (r1 ++ ras4) := fun h => by
    rcases List.mem_append.mp h with c | c
    · exact nt6 (List.mem_append_left _ c)
    · rcases List.mem_cons.mp c with c | c
      · exact na c
      · exact nt6 (List.mem_append_right _ c)
  have ll4 : ru.length + (r1.length + (ras4.length + 1)) = n := by rw [List.length_append, List.length_append, List.length_cons] at lr3; (first | lia | omega)
  refine ⟨_, rfl, .inl ⟨rfl, _, SqL.of T5.1⟩, _, rfl, tr, _, _, r + p, .ref a', rfl, rfl, T5.1, (by (first | lia | omega)), (by (first | lia | omega)), (ixN_seq (ixN_nat (by rw [List.length_map, List.length_append, List.length_append, List.length_cons]; (first | lia | omega)))).1, (by rw [List.getElem?_map, List.getElem?_append_right (by (first | lia | omega)), List.getElem?_append_right (by (first | lia | omega)), show r + p - ru.length - r1.length = 0 by (first | lia | omega)]; rfl), ?_⟩
  rw [erase_mid lru lr1]
  have P6 : Paired (RowAt H5) (Up ++ (La1 ++ Lb2)) (ru ++ (r1 ++ ras4)) := pd_app pU (pd_app p1 p2)
  have P7 : Paired (RowAt H5) (Up ++ x :: (La1 ++ Lb2)) (ru ++ a' :: (r1 ++ ras4)) := pd_app pU (.cons hra' (pd_app p1 p2))
  have P76 := pd_upd (zs' := (ru ++ (r1 ++ ras4)).map V.ref) P7 nt7 T5.1
  have g6 : Same H (upd H5 tr (.lst ((ru ++ (r1 ++ ras4)).map V.ref))) := same_upd (g3.trans g45) ftr
  have h6 : upd H5 tr (.lst ((ru ++ (r1 ++ ras4)).map V.ref)) tr = some (.lst ((ru ++ (r1 ++ ras4)).map V.ref)) := upd_same
  generalize upd H5 tr (.lst ((ru ++ (r1 ++ ras4)).map V.ref)) = H6 at *
  refine ⟨_, rfl, .inl ⟨rfl, _, SqL.of h6⟩, _, rfl, _, rfl, tr, _, r, .ref a', rfl, rfl, h6, (by rw [List.length_map, List.length_append]; (first | lia | omega)), (by rw [List.length_map, List.length_append, List.length_append]; (first | lia | omega)), ?_⟩
  rw [insert_mid lru]
  have T7 := tab_new h6 P76 nt7
  have g7 := same_upd (o := .lst ((ru ++ a' :: (r1 ++ ras4)).map V.ref)) g6 ftr
  have hra7 : RowAt (upd H6 tr (.lst ((ru ++ a' :: (r1 ++ ras4)).map V.ref))) x a' := pd_get T7.2 (i := r) (by rw [List.getElem?_append_right (by (first | lia | omega)), hr', Nat.sub_self]; rfl) (by rw [List.getElem?_append_right (by (first | lia | omega)), lru, Nat.sub_self]; rfl)
  generalize upd H6 tr (.lst ((ru ++ a' :: (r1 ++ ras4)).map V.ref)) = H7 at *
  generalize eW : La1 ++ Lb2 = Lw at *
  have lLw : Lw.length + (r + 1) = n := by
    rw [← eW, List.length_append]
    rw [List.length_append, List.length_cons] at lLo
    (first | lia | omega)
  have oLw : ∀ y ∈ Lw, ROk k n (szR r) y := fun y hy => by
    rw [← eW] at hy
    refine rowOk y (List.mem_append_right _ ?_)
    rcases List.mem_append.mp hy with c | c
    · exact List.mem_append_left _ c
    · exact List.mem_append_right _ (List.mem_cons_of_mem _ c)
  clear P6 P7 P76 h6 T5 pU pL p1 p2 px hra' g6
  have l7 := pd_len T7.2
  rw [List.length_append, hr', List.length_cons] at l7
  -- the rows below it
  refine ⟨_, rfl, _, _, rfl, rfl, _, rfl, tr, _, rfl, .inl (SqL.of T7.1), _, _, rfl, ⟨by (first | lia | omega), by (first | lia | omega), by rw [List.length_map]; (first | lia | omega), by rw [List.length_map]; (first | lia | omega)⟩, ?_⟩
  rw [List.length_map, ← l7, show (((r + (Lw.length + 1) : Nat) : Int) - ((r : Int) + 1)).toNat = Lw.length by (first | lia | omega)]
  let Pv39_ : Nat → L2.St → Hp → Prop := fun m σ H' => ∃ ras o7 o8 o9 o10, σ = [some (.int k), some (.ref t), some (.ref tr), some (.int (r : Int)), some (.int (j : Int)), some (.int ((r + p : Nat) : Int)), some (.ref a'), o7, o8, o9, o10] ∧ Same H H' ∧ TabAt H' (Up ++ x :: ((Lw.take m).map (elR k j x) ++ Lw.drop m)) tr ras ∧ tr ∉ ras ∧ RowAt H' x a'
  refine for_range (lo := (r : Int) + 1) (n := Lw.length) Pv39_ ⟨ru ++ a' :: (r1 ++ ras4), _, _, _, _, rfl, g7, T7, nt7, hra7⟩ ?_ ?_
  rotate_left
  · intro σ H8 hI2_
    refine hide fun _ hG_ => ?_
    obtain ⟨ras, o7, o8, o9, o10, rfl, g8, T8, nt8, _⟩ := hI2_
    refine hG_ ?_
    clear hG_
    rw [List.take_of_length_le (Nat.le_refl _), List.drop_of_length_le (Nat.le_refl _), List.append_nil] at T8
    refine ⟨_, rfl, _, _, rfl, rfl, ?_⟩
    have st := rk.step hk hj ne
    rw [eW] at st
    have eA : (Up ++ [x]) ++ Lw.map (elR k j x) = Up ++ x :: Lw.map (elR k j x) := by simp
    refine ⟨Up ++ [x], Lw.map (elR k j x), ls ++ [j], ras, _, _, _, _, _, _, _, by rw [List.length_append, hr']; rfl, g8, by rw [eA]; exact T8, nt8, by rw [eA, List.length_append, List.length_cons, List.length_map, hr']; (first | lia | omega), st, ?_, by rw [List.length_append, hr']; show r + 1 ≤ j + 1; (first | lia | omega)⟩
    rw [List.length_append, hr']
    show szM (szR (r + 1)) _
    intro z hz w hw
    rcases List.mem_append.mp hz with c | c
    · refine nsm.mono (m := szR r) (sz z ?_ w hw) (by simp only [szR]; (first | lia | omega))
      rcases List.mem_append.mp c with c | c
      · exact List.mem_append_left _ c
      · rw [List.mem_singleton.mp c]; exact List.mem_append_right _ (List.mem_append_right _ List.mem_cons_self)
    · refine hide fun _ hG_ => ?_
      obtain ⟨y', hy', rfl⟩ := List.mem_map.mp c
      refine hG_ ?_
      clear hG_
      exact el_sz hk (by (first | lia | omega)) hj ox (oLw y' hy') w hw
  intro m σ H8 hm hI4_
  refine hide fun _ hG_ => ?_
  obtain ⟨ras, o7, o8, o9, o10, rfl, g8, T8, nt8, hx8⟩ := hI4_
  refine hG_ ?_
  clear hG_
  obtain ⟨b, eb⟩ : ∃ b, Lw[m]? = some b := ⟨_, List.getElem?_eq_getElem hm⟩
  have ob := oLw b (List.mem_of_getElem? eb)
  have egb := el_get (k := k) (j := j) (x := x) hr' eb
  refine hide fun _ hG_ => ?_
  obtain ⟨ab, eab, hab⟩ := pd_left T8.2 egb
  refine hG_ ?_
  clear hG_
  refine hide fun _ hG_ => ?_
  obtain ⟨ub, hub, pub, lub⟩ := hab.len
  refine hG_ ?_
  clear hG_
  refine hide fun _ hG_ => ?_
  obtain ⟨ux, hux, pux, lux⟩ := hx8.len
  refine hG_ ?_
  clear hG_
  obtain ⟨zb, ezb⟩ : ∃ z, b[j]? = some z := ⟨_, List.getElem?_eq_getElem (by rw [ob.len]; exact hj)⟩
  refine hide fun _ hG_ => ?_
  obtain ⟨vb, evb, rvb⟩ := pd_left pub ezb
  refine hG_ ?_
  clear hG_
  refine hide fun _ hG_ => ?_
  obtain ⟨vx, evx, rvx⟩ := pd_left pux ey
  refine hG_ ?_
  clear hG_
  have gdx : x.getD j (.z 0) = y := by rw [List.getD_eq_getElem?_getD, ey]; rfl
  have gdb : b.getD j (.z 0) = zb := by rw [List.getD_eq_getElem?_getD, ezb]; rfl
  have ei : (r : Int) + 1 + (m : Int) = ((r + 1 + m : Nat) : Int) := by (first | lia | omega)
  rw [ei]
  have at1 : atI (ras.map V.ref) ((r + 1 + m : Nat) : Int) = some (.ref ab) := atI_nat (by rw [List.getElem?_map, eab]; rfl)
  refine ⟨_, rfl, _, rfl, tr, _, _, .ref ab, rfl, rfl, SqL.of T8.1, at1, _, rfl, ab, _, _, vb, rfl, rfl, SqL.of hub, atI_nat evb, ?_⟩
  have oky := ox.ok y (List.mem_of_getElem? ey)
  have sy := ox.sz y (List.mem_of_getElem? ey)
  have okz := ob.ok zb (List.mem_of_getElem? ezb)
  have szz := ob.sz zb (List.mem_of_getElem? ezb)
  have lxx := ox.len
  have lbb := ob.len
  -- left
  refine ⟨_, rfl, _, rfl, tr, _, _, .ref ab, rfl, rfl, SqL.of T8.1, at1, ab, rfl, ⟨_, SqL.of hub⟩, ?_⟩
  let Pv40_ : Nat → List V → Hp → Prop := fun l ys H' => Same H8 H' ∧ Paired (RN H') ((b.map (nmul k y)).take l) ys
  refine comp_list (xs := ub) Pv40_ ⟨Same.refl _, .nil⟩ ?_ ?_ ?_
  · rintro l ys H9 hl ⟨g9, pr⟩
    refine ⟨SqL.of (g9 _ _ hub), ?_⟩
    have := pd_len pr
    rw [List.length_take, List.length_map] at this
    (first | lia | omega)
  · rintro l v ys H9 hv hl ⟨g9, pr⟩
    refine hide fun _ hG_ => ?_
    obtain ⟨w', hw, rw'⟩ := pd_right pub hv
    refine hG_ ?_
    clear hG_
    have wm := List.mem_of_getElem? hw
    first | refine gyes ?_ | refine tyes ?_
    refine ⟨_, rfl, _, rfl, _, rfl, a', _, _, vx, rfl, rfl, SqL.of (g9 _ _ hux), atI_nat evx, _, rfl, k, y, w', vx, v, rfl, ⟨hk, oky, ob.ok w' wm, sy.mono (by (first | lia | omega)), (ob.sz w' wm).mono (by (first | lia | omega)), rvx.mono g9, rw'.mono g9⟩, fun v8 H10 g10 r10 => nxt hl ⟨g9.trans g10, ?_⟩⟩
    have e : (b.map (nmul k y))[l]? = some (nmul k y w') := by rw [List.getElem?_map, hw]; rfl
    rw [take_snoc e]
    exact pd_snoc (pd_rn g10 pr) r10
  rintro yl H9 ⟨g9, prl⟩ pl hpl
  rw [List.take_of_length_le (by rw [List.length_map]; (first | lia | omega))] at prl
  have gl := g9.trans (same_new hpl (.lst yl))
  have hl9 : upd H9 pl (.lst yl) pl = some (.lst yl) := upd_same
  replace prl := pd_rn (same_new hpl (.lst yl)) prl
  generalize upd H9 pl (.lst yl) = Ha at *
  -- right
  have hux2 := gl _ _ hux
  refine ⟨_, rfl, a', rfl, ⟨_, SqL.of hux2⟩, ?_⟩
  let Pv41_ : Nat → List V → Hp → Prop := fun l ys H' => Same Ha H' ∧ Paired (RN H') ((x.map (nmul k zb)).take l) ys
  refine comp_list (xs := ux) Pv41_ ⟨Same.refl _, .nil⟩ ?_ ?_ ?_
  · rintro l ys Hc hl ⟨gc, pr⟩
    refine ⟨SqL.of (gc _ _ hux2), ?_⟩
    have := pd_len pr
    rw [List.length_take, List.length_map] at this
    (first | lia | omega)
  · rintro l v ys Hc hv hl ⟨gc, pr⟩
    refine hide fun _ hG_ => ?_
    obtain ⟨w', hw, rw'⟩ := pd_right pux hv
    refine hG_ ?_
    clear hG_
    have wm := List.mem_of_getElem? hw
    first | refine gyes ?_ | refine tyes ?_
    refine ⟨_, rfl, _, rfl, _, rfl, k, zb, w', vb, v, rfl, ⟨hk, okz, ox.ok w' wm, szz.mono (by (first | lia | omega)), (ox.sz w' wm).mono (by (first | lia | omega)), rvb.mono (gl.trans gc), rw'.mono (gl.trans gc)⟩, fun v8 H10 g10 r10 => nxt hl ⟨gc.trans g10, ?_⟩⟩
    have e : (x.map (nmul k zb))[l]? = some (nmul k zb w') := by rw [List.getElem?_map, hw]; rfl
    rw [take_snoc e]
    exact pd_snoc (pd_rn g10 pr) r10
  rintro yr Hc ⟨gc, prr⟩ pr' hpr
  rw [List.take_of_length_le (by rw [List.length_map]; (first | lia | omega))] at prr
  have gr := gc.trans (same_new hpr (.lst yr))
  have hr9 : upd Hc pr' (.lst yr) pr' = some (.lst yr) := upd_same
  replace prr := pd_rn (same_new hpr (.lst yr)) prr
  generalize upd Hc pr' (.lst yr) = Hd at *
  have hl10 := gr _ _ hl9
  replace prl := pd_rn gr prl
  have lyl := pd_len prl
  have lyr := pd_len prr
  rw [List.length_map] at lyl lyr
  have eEl : elR k j x b = List.zipWith (nsub k) (b.map (nmul k y)) (x.map (nmul k zb)) := by unfold elR; rw [gdx, gdb]
  have lEl : (elR k j x b).length = n := (el_ok hk hj ox.len ob.len ox.ok ob.ok).1
  have hb2 : szR r + szR r ≤ 60000000 := by (first | lia | omega)
  have okL : ∀ z ∈ b.map (nmul k y), z.ok k ∧ nsm (szR r + szR r) z := fun z hz => by
    refine hide fun _ hG_ => ?_
    obtain ⟨w', hw, rfl⟩ := List.mem_map.mp hz
    refine hG_ ?_
    clear hG_
    exact ⟨La.zmul_ok hk oky (ob.ok w' hw), nmul_sm hk oky (ob.ok w' hw) sy (ob.sz w' hw) (by (first | lia | omega))⟩
  have okR : ∀ z ∈ x.map (nmul k zb), z.ok k ∧ nsm (szR r + szR r) z := fun z hz => by
    refine hide fun _ hG_ => ?_
    obtain ⟨w', hw, rfl⟩ := List.mem_map.mp hz
    refine hG_ ?_
    clear hG_
    exact ⟨La.zmul_ok hk okz (ox.ok w' hw), nmul_sm hk okz (ox.ok w' hw) szz (ox.sz w' hw) (by (first | lia | omega))⟩
  refine ⟨_, rfl, _, rfl, pl, pr', _, _, rfl, SqL.of hl10, SqL.of hr9, ?_⟩
  let Pv42_ : Nat → List V → Hp → Prop := fun l ys H' => Same Hd H' ∧ Paired (RN H') ((elR k j x b).take l) ys
  refine comp_zip (xs := yl) (zs := yr) (by (first | lia | omega)) Pv42_ ⟨Same.refl _, .nil⟩ ?_ ?_ ?_
  · rintro l ys H' hl ⟨g, pr⟩
    refine ⟨SqL.of (g _ _ hl10), SqL.of (g _ _ hr9), ?_⟩
    have := pd_len pr
    rw [List.length_take] at this
    (first | lia | omega)
  · rintro l v1 v2 T2 ys H' h1 h2 hl hT2 ⟨g, pr⟩
    refine hide fun _ hG_ => ?_
    obtain ⟨x', hx'', rx⟩ := pd_right prl h1
    refine hG_ ?_
    clear hG_
    refine hide fun _ hG_ => ?_
    obtain ⟨z', hz'', rz⟩ := pd_right prr h2
    refine hG_ ?_
    clear hG_
    have g8' := same_new hT2 (.tup [v1, v2])
    refine ⟨T2, _, rfl, SqT.of upd_same, rfl, _, _, rfl, _, _, rfl, rfl, ?_⟩
    generalize upd H' T2 (.tup [v1, v2]) = He at *
    first | refine gyes ?_ | refine tyes ?_
    have gg := g.trans g8'
    obtain ⟨k1, k2⟩ := okL _ (List.mem_of_getElem? hx'')
    obtain ⟨k3, k4⟩ := okR _ (List.mem_of_getElem? hz'')
    refine ⟨_, rfl, _, rfl, _, rfl, k, x', z', v1, v2, rfl, ⟨hk, k1, k3, k2.mono hb2, k4.mono hb2, rx.mono gg, rz.mono gg⟩, fun v Hf gf rf => nxt hl ⟨gg.trans gf, ?_⟩⟩
    have e : (elR k j x b)[l]? = some (nsub k x' z') := by rw [eEl, List.getElem?_zipWith, hx'', hz'']
    rw [take_snoc e]
    exact pd_snoc (pd_rn (g8'.trans gf) pr) rf
  rintro yn Hg ⟨gg, prn⟩ pn hpn
  rw [List.take_of_length_le (by (first | lia | omega))] at prn
  have gn := ((gl.trans gr).trans gg).trans (same_new hpn (.lst yn))
  have hn : RowAt (upd Hg pn (.lst yn)) (elR k j x b) pn := ⟨yn, upd_same, pd_rn (same_new hpn _) prn⟩
  have npn : pn ≠ tr := fun e => by rw [e, ((gl.trans gr).trans gg) _ _ T8.1] at hpn; cases hpn
  generalize upd Hg pn (.lst yn) = Hh at *
  have T9 := T8.mono gn
  have l9 := pd_len T9.2
  have lt9 : r + 1 + m < ras.length := by
    rw [← l9]
    exact (List.getElem?_eq_some_iff.mp egb).1
  refine ⟨_, rfl, _, rfl, tr, _, _, r + 1 + m, rfl, rfl, T9.1, ixN_nat (by rw [List.length_map]; exact lt9), ?_⟩
  have T10 := T9.setRow (i := r + 1 + m) hn npn nt8
  rw [el_snoc hr' eb] at T10
  refine ⟨ras.set (r + 1 + m) pn, _, _, _, _, rfl, same_upd (g8.trans gn) ftr, T10, fun h => ?_, (hx8.mono gn).upd (fun e => na e.symm) T9.1⟩
  rcases La.mem_set_or h with c | c
  · exact npn c.symm
  · exact nt8 c
--SPLIT
/-! law -/
theorem cutN {ns : List Int} (N : Nat) : cutV (ns.map V.int) none (some (N : Int)) = (ns.take N).map V.int := by rw [cutTo, List.map_take]
theorem litN {i : Nat} {v : V} {σ σ' : L2.St} {H : Hp} {Q : L2.St → Hp → Prop} (e : σ.set i (some v) = σ') (h : Q σ' H) : gName i v σ H Q := by
  unfold gName
  rw [e]; exact h
theorem pick_unit {H : Hp} {k : Int} {v0 v1 : V} {i j : Nat} (r0 : RN H (nnum k 0) v0) (r1 : RN H (nnum k 1) v1) : ∃ v, atI [v0, v1] (if decide (V.int (i : Int) = V.int (j : Int)) = true then 1 else 0) = some v ∧ RN H (if i = j then nnum k 1 else nnum k 0) v := by
  by_cases c : i = j
  · rw [if_pos c, decide_eq_true (show V.int (i : Int) = V.int (j : Int) from congrArg V.int (by (first | lia | omega)))]
    exact ⟨v1, rfl, r1⟩
  · rw [if_neg c, decide_eq_false (show ¬ V.int (i : Int) = V.int (j : Int) from fun z => c (by have := V.int.inj z; (first | lia | omega)))]
    exact ⟨v0, rfl, r0⟩
theorem ok_law {C : Addr} {f : Addr} {fd : FuncData} (F : Fun K "law" "law" s_law f fd) (d__law_kind : Kn P w K mg base "_law_kind" 41 ["_law_drawn"] sp_kind) (d__law_mix : Kn P w K mg base "_law_mix" 1 ["_law_cell", "_law_j"] sp_mix) (d__law_table : Kn P w K mg base "_law_table" 43 ["_law_kind_here", "_law_cell"] sp_ltab) (d__law_rank : Kn P w K mg base "_law_rank" 43 ["_law_kind_here", "_law_table_here"] sp_lrank) (d__law_refused : Kn P w K mg base "_law_refused" 47 ["_law_kind_here", "_law_table_here"] sp_lrefused)
    (d_back : Kx P w K mg base "back" 46 ["kind", "table"] (sp_back C)) (d__law_number : Kn P w K mg base "_law_number" 42 ["_law_kind_here", "_law_drawn"] sp_lnumber) (d__law_is_table : Kn P w K mg base "_law_is_table" 42 ["_law_kind_here", "_law_found", "_law_size"] sp_listab) (d__law_product : Kn P w K mg base "_law_product" 43 ["_law_kind_here", "_law_one", "_law_other"] sp_lprod) (m_len : mg "len" = none) (m_int : mg "int" = none) (m_range : mg "range" = none) :
    FnOk P w K mg base CX0 48 f fd ["_law_script"] (spLaw K) := by
  refine F.ok sc_law (fun vs H Q E h => ?_) (fun cdv A outer s H vs Q E hr h => ?_)
  · obtain ⟨a, ns, rfl, _⟩ := h; rfl
  refine hide fun _ hG_ => ?_
  obtain ⟨a, ns, rfl, hS, h63, q⟩ := h
  refine hG_ ?_
  clear hG_
  have szl : sizeLine = 16777216 := by decide
  refine ⟨_, (pss_cons (ps_for PassesOwn.never rfl (pi_listK (K := K) rfl (pe_op op_cat (pe_slice (sl_listK (K := K) rfl) (pv 0) po_none (po_some pe_int)) (pe_lst (pa_cons pe_int pa_nil)))) (pg_name (i := 1) sc_law.nd rfl (by first | exact Or.inl rfl | exact Or.inr rfl)) (pss_cons (ps_set (i := 2) sc_law.nd rfl (by first | exact Or.inl rfl | exact Or.inr rfl) (pe_kn d__law_kind (hr.mono (by decide)) rfl (pa_cons (pe_kn d__law_mix (hr.mono (by decide)) rfl (pa_cons (pv 1) (pa_cons pe_int pa_nil))) pa_nil))) (pss_cons (ps_set (i := 3) sc_law.nd rfl (by first | exact Or.inl rfl | exact Or.inr rfl) (pe_kn d__law_table (hr.mono (by decide)) rfl (pa_cons (pv 2) (pa_cons (pv 1) pa_nil)))) (pss_cons (ps_set (i := 4) sc_law.nd rfl (by first | exact Or.inl rfl | exact Or.inr rfl) (pe_callB (call_lenK (K := K) rfl) rfl m_len bb_len (pa_cons (pv 3) pa_nil))) (pss_cons (ps_if (pt_cmpR op_lt (pe_kn d__law_rank (hr.mono (by decide)) rfl (pa_cons (pv 2) (pa_cons (pv 3) pa_nil))) (pv 4) (nomark _)) (pss_cons (ps_if (PW.pt (pw_or (pt_not (pt_val (pe_kn d__law_refused (hr.mono (by decide)) rfl (pa_cons (pv 2) (pa_cons (pv 3) pa_nil))))) (pw_or1 (pt_cmpR (op_neD hr) (pv 3) (pe_kn d__law_table (hr.mono (by decide)) rfl (pa_cons (pv 2) (pa_cons (pv 1) pa_nil))) (nomark _))))) (pss_one (ps_ret pe_bl)) pss_nil) (pss_one ps_continue)) pss_nil) (pss_cons (ps_set (i := 5) sc_law.nd rfl (by first | exact Or.inl rfl | exact Or.inr rfl) (pe_kx d_back (hr.mono (by decide)) rfl (pa_cons (pv 2) (pa_cons (pv 3) pa_nil)))) (pss_cons (ps_set (i := 6) sc_law.nd rfl (by first | exact Or.inl rfl | exact Or.inr rfl) (pe_ix (ix_listK (K := K) rfl) (pe_lst (pa_cons (pe_tup (pa_cons pe_int (pa_cons pe_int pa_nil))) (pa_cons pe_int pa_nil))) (pe_callTy call_int1 rfl m_int bb_int (pa_cons (pe_cmpR op_gt (pv 2) pe_int (nomark _)) pa_nil)) (fun _ _ => rfl))) (pss_cons (ps_set (i := 7) sc_law.nd rfl (by first | exact Or.inl rfl | exact Or.inr rfl) (pe_lst pa_nil)) (pss_cons (ps_for PassesOwn.never rfl (pi_range1 rfl m_range (pa_cons (pv 4) pa_nil)) (pg_name (i := 8) sc_law.nd rfl (by first | exact Or.inl rfl | exact Or.inr rfl)) (pss_one (ps_expr (bm0 (fun _ h => pe_bm PySem.F.plainAttrs_list PySem.F.slot_list_append PySem.F.type_list_append mt_append h (pa_cons (pe_comp ["_law_j"] ["_law_kind_here", "_law_one", "_law_i"] [2, 6, 8] ⟨rfl, rfl, rfl, rfl, rfl, rfl, by decide +kernel⟩ rfl (pi_range1 rfl m_range (pa_cons (pv 4) pa_nil)) (gown_name (by decide)) fun _ _ _ _ _ _ => ⟨(pg_name (i := 0) (by decide : (["_law_j", "_law_kind_here", "_law_one", "_law_i"] : List Str).Nodup) rfl (by first | exact Or.inl rfl | exact Or.inr rfl)), pts_nil, (pe_ix (ix_listK (K := K) rfl) (pe_lst (pa_cons (pe_kn d__law_number (hr.mono (by decide)) rfl (pa_cons (pv 1) (pa_cons pe_int pa_nil))) (pa_cons (pv 2) pa_nil))) (pe_callTy call_int1 rfl m_int bb_int (pa_cons (pe_cmpR op_eq (pv 3) (pv 0) (nomark _)) pa_nil)) (fun _ _ => rfl))⟩) pa_nil)) (pv 7))))) (pss_cons (ps_if (PW.pt (pw_or (pt_not (pt_val (pe_kn d__law_is_table (hr.mono (by decide)) rfl (pa_cons (pv 2) (pa_cons (pv 5) (pa_cons (pv 4) pa_nil)))))) (pw_or1 (pt_cmpR (op_neD hr) (pe_kn d__law_product (hr.mono (by decide)) rfl (pa_cons (pv 2) (pa_cons (pv 3) (pa_cons (pv 5) pa_nil)))) (pv 7) (nomark _))))) (pss_one (ps_ret pe_bl)) pss_nil) (pss_cons (ps_if (pt_cmpR (op_neD hr) (pe_kn d__law_product (hr.mono (by decide)) rfl (pa_cons (pv 2) (pa_cons (pv 5) (pa_cons (pv 3) pa_nil)))) (pv 7) (nomark _)) (pss_one (ps_ret pe_bl)) pss_nil) (pss_cons (ps_expr (bm0 (fun _ h => pe_bm PySem.F.plainAttrs_list PySem.F.slot_list_append PySem.F.type_list_append mt_append h (pa_cons pe_non pa_nil)) (pe_ix (ix_listK (K := K) rfl) (pv 5) pe_int (fun _ _ => rfl)))) (pss_one (ps_if (pt_cmpR (op_neD hr) (pv 3) (pe_kn d__law_table (hr.mono (by decide)) rfl (pa_cons (pv 2) (pa_cons (pv 1) pa_nil))) (nomark _)) (pss_one (ps_ret pe_bl)) pss_nil)))))))))))))) (pss_one (ps_ret pe_bl))), ?_⟩
  refine ⟨_, rfl, _, rfl, a, _, rfl, hS, fun p1 hp1 => ?_⟩
  refine ⟨(by show 1 ≤ sizeLine; decide), fun p2 hp2 => ?_⟩
  have n12 : p1 ≠ p2 := fun e => by rw [e, upd_same] at hp2; cases hp2
  rw [show ((24 : Int)) = ((24 : Nat) : Int) from rfl, cutN 24] at *
  refine ⟨p1, p2, _, _, rfl, rfl, (by rw [upd_ne n12]; exact upd_same), upd_same, ?_, fun p3 hp3 => ?_⟩
  · rw [List.length_map, List.length_take]; show min 24 ns.length + 1 ≤ sizeLine; (first | lia | omega)
  have e3 : (ns.take 24).map V.int ++ [V.int 0] = (ns.take 24 ++ [0]).map V.int := by simp
  rw [e3]
  refine ⟨p3, rfl, ⟨_, SqL.of upd_same⟩, ?_⟩
  generalize ns.take 24 ++ [0] = cs
  let Pv43_ : Nat → L2.St → Hp → Prop := fun i σ H' => ∃ o1 o2 o3 o4 o5 o6 o7 o8, σ = [some (.ref a), o1, o2, o3, o4, o5, o6, o7, o8] ∧ H' p3 = some (.lst (cs.map V.int))
  refine for_list (xs := cs.map V.int) Pv43_ ⟨_, _, _, _, _, _, _, _, rfl, upd_same⟩ ?_ ?_ ?_
  · intro i σ H' _ hI4_
    refine hide fun _ hG_ => ?_
    obtain ⟨o1, o2, o3, o4, o5, o6, o7, o8, rfl, h⟩ := hI4_
    refine hG_ ?_
    clear hG_
    exact SqL.of h
  rotate_left
  · intro σ H' hI2_
    refine hide fun _ hG_ => ?_
    obtain ⟨o1, o2, o3, o4, o5, o6, o7, o8, rfl, h⟩ := hI2_
    refine hG_ ?_
    clear hG_
    exact q H'
  intro i x σ H0 hx hI5_
  refine hide fun _ hG_ => ?_
  obtain ⟨o1, o2, o3, o4, o5, o6, o7, o8, rfl, h⟩ := hI5_
  refine hG_ ?_
  clear hG_
  rw [List.getElem?_map] at hx
  refine hide fun _ hG_ => ?_
  obtain ⟨c, _, rfl⟩ := Option.map_eq_some_iff.mp hx
  refine hG_ ?_
  clear hG_
  clear hx
  refine ⟨_, rfl, c, 1, rfl, (by decide), (by decide), _, rfl, fun k hk => ?_⟩
  refine hide fun _ hG_ => ?_
  obtain ⟨n1, n4, en⟩ := tabN_bd c 2
  refine hG_ ?_
  clear hG_
  refine hide fun _ hG_ => ?_
  obtain ⟨oM', sM', lM'⟩ := tabW_ok hk c (tabN c 2) (tabN c 2) n1
  refine hG_ ?_
  clear hG_
  have eF : tabW k c (tabN c 2) (tabN c 2) = tabF k c := rfl
  rw [eF] at oM' sM' lM'
  clear en eF
  refine ⟨_, rfl, _, rfl, k, c, rfl, hk, fun t ras H1 g1 T1 => ?_⟩
  have oM : TOk k (tabN c 2) (tabN c 2) 14 (tabF k c) := ⟨lM', oM', sM'⟩
  clear oM' sM' lM'
  generalize tabN c 2 = n at *
  have lr := pd_len T1.2
  rw [oM.len] at lr
  refine ⟨_, rfl, t, _, rfl, .inl (SqL.of T1.1), ?_⟩
  rw [List.length_map, ← lr]
  have h1 := g1 _ _ h
  first | refine litN (σ' := [some (.ref a), some (.int c), some (.int k), some (.ref t), some (.int (n : Int)), o5, o6, o7, o8]) rfl ?_ | refine lit (σ' := [some (.ref a), some (.int c), some (.int k), some (.ref t), some (.int (n : Int)), o5, o6, o7, o8]) rfl ?_
  generalize eM : tabF k c = M at *
  have rB := redB6 n4
  refine ⟨_, rfl, _, rfl, k, M, n, t, ras, rfl, hk, T1, oM, n1, n4, fun r H2 g2 hlt hge => ?_⟩
  refine ⟨_, rfl, _, _, rfl, rfl, _, rfl, ?_⟩
  refine ite2 (fun cr => ?_) (fun cr => ?_)
  · have lt : r < n := by have := of_decide_eq_true cr; (first | lia | omega)
    refine ⟨_, rfl, _, rfl, k, M, n, t, ras, rfl, hk, T1.mono g2, oM, n4, hlt lt, fun H3 g3 => ⟨_, rfl, iteF ?_⟩⟩
    refine ⟨_, rfl, _, rfl, _, rfl, k, c, rfl, hk, fun t' ras' H4 g4 T4 => ?_⟩
    rw [eM] at T4
    have g14 := (g2.trans g3).trans g4
    refine ⟨tabD _, tabD _, (T1.mono g14).rp, T4.rp, tabD_lay _, tabD_lay _, Nat.le_trans (Nat.min_le_left _ _) (Nat.le_trans (tabD_depth _) (by decide)), _, rfl, ?_⟩
    rw [tabD_self]
    refine iteF ?_
    exact ⟨_, _, _, _, _, _, _, _, rfl, g14 _ _ h1⟩
  have nlt : ¬ r < n := fun z => cr (by rw [decide_eq_true_iff]; (first | lia | omega))
  refine ⟨_, rfl, _, rfl, k, M, n, 14, t, ras, rfl, hk, T1.mono g2, oM, (by (first | lia | omega)), (by decide), (by (first | lia | omega)), fun R ls H3 g3 red sz => ⟨fun ne => absurd (hge nlt R ls red) ne, fun eU tb rb H4 g4 NB => ?_⟩⟩
  obtain ⟨pMS, pSM⟩ := La.back_pair hk oM.ok oM.len red eU
  have oS : TOk k n n 100000 (R.map (List.drop n)) := by
    refine hide fun _ hG_ => ?_
    obtain ⟨F0, i0, d0, ⟨φ0⟩⟩ := La.field_of hk
    refine hG_ ?_
    clear hG_
    obtain ⟨u1, u2⟩ := La.back_ok hk (red F0 φ0) eU
    refine ⟨by rw [List.length_map]; exact u2, u1, fun z hz y hy => ?_⟩
    refine hide fun _ hG_ => ?_
    obtain ⟨w', hw, rfl⟩ := List.mem_map.mp hz
    refine hG_ ?_
    clear hG_
    exact (sz w' hw y (List.mem_of_mem_drop hy)).mono (by (first | lia | omega))
  generalize R.map (List.drop n) = S at *
  clear red sz eU hlt hge cr
  have g13 := g2.trans g3
  have g14 := g13.trans g4
  -- one
  refine ⟨(by show 2 ≤ sizeLine; decide), fun pq hpq => ⟨(by show 2 ≤ sizeLine; decide), fun pl hpl => ?_⟩⟩
  have g5 := (same_new hpq (.tup [V.int 1, V.int 1])).trans (same_new hpl (.lst [V.ref pq, V.int 1]))
  have hq5 : upd (upd H4 pq (.tup [V.int 1, V.int 1])) pl (.lst [V.ref pq, V.int 1]) pq = some (.tup [V.int 1, V.int 1]) := same_new hpl _ _ _ upd_same
  have hl5 : upd (upd H4 pq (.tup [V.int 1, V.int 1])) pl (.lst [V.ref pq, V.int 1]) pl = some (.lst [V.ref pq, V.int 1]) := upd_same
  refine hide fun _ hG_ => ?_
  obtain ⟨v1, e1, r1'⟩ := pick_one hk hq5
  refine hG_ ?_
  clear hG_
  generalize upd (upd H4 pq (.tup [V.int 1, V.int 1])) pl (.lst [V.ref pq, V.int 1]) = H5 at *
  refine ⟨_, rfl, _, _, rfl, rfl, .inr ⟨_, rfl, pl, _, _, _, rfl, rfl, SqL.of hl5, e1, ?_⟩⟩
  clear hq5 hl5 hpq hpl e1
  -- ones
  refine ⟨(by show 0 ≤ sizeLine; decide), fun po hpo => ?_⟩
  have lUn : (La.unitM k n).length = n := (La.unitM_ok hk n).2
  first | refine litN (σ' := [some (.ref a), some (.int c), some (.int k), some (.ref t), some (.int (n : Int)), some (.ref tb), some v1, some (.ref po), o8]) rfl ?_ | refine lit (σ' := [some (.ref a), some (.int c), some (.int k), some (.ref t), some (.int (n : Int)), some (.ref tb), some v1, some (.ref po), o8]) rfl ?_
  refine ⟨_, rfl, n, rfl, (by (first | lia | omega)), (by (first | lia | omega)), ?_⟩
  rw [Int.toNat_natCast]
  let Pv44_ : Nat → L2.St → Hp → Prop := fun i σ H' => ∃ rd o8, σ = [some (.ref a), some (.int c), some (.int k), some (.ref t), some (.int (n : Int)), some (.ref tb), some v1, some (.ref po), o8] ∧ Grow H5 H' ((La.unitM k n).take i) rd ∧ H' po = some (.lst (rd.map V.ref)) ∧ po ∉ rd
  refine for_range (lo := 0) (n := n) Pv44_ ⟨[], o8, rfl, Grow.nil H5 (same_new hpo _), upd_same, by simp⟩ ?_ ?_
  · intro l σ H6 hl hI4_
    refine hide fun _ hG_ => ?_
    obtain ⟨rd, o8, rfl, G, hpo6, npo⟩ := hI4_
    refine hG_ ?_
    clear hG_
    rw [Int.zero_add]
    refine ⟨_, rfl, .inl ⟨rfl, _, SqL.of hpo6⟩, _, rfl, n, rfl, (by (first | lia | omega)), (by (first | lia | omega)), ?_⟩
    rw [Int.toNat_natCast]
    have lR : (La.unitRow k n l).length = n := by unfold La.unitRow; simp
    let Pv45_ : Nat → List V → Hp → Prop := fun j ys' H7 => Same H6 H7 ∧ Paired (RN H7) ((La.unitRow k n l).take j) ys'
    refine comp_range (lo := 0) (n := n) Pv45_ ⟨Same.refl _, .nil⟩ ?_ ?_ ?_
    · rintro j ys' H7 hj ⟨g7, pr7⟩
      have := pd_len pr7
      rw [List.length_take] at this
      (first | lia | omega)
    · rintro j ys' H7 hj ⟨g7, pr7⟩
      first | refine gyes ?_ | refine tyes ?_
      refine ⟨_, rfl, k, 0, rfl, hk, fun v0 H8 g8 r8 => ⟨_, rfl, (by show 2 ≤ sizeLine; decide), fun p8 hp8 => ?_⟩⟩
      rw [numF_zero hk] at r8
      have g9 := same_new hp8 (.lst [v0, v1])
      have hp9 : upd H8 p8 (.lst [v0, v1]) p8 = some (.lst [v0, v1]) := upd_same
      generalize upd H8 p8 (.lst [v0, v1]) = H9 at *
      have g79 := g7.trans (g8.trans g9)
      refine hide fun _ hG_ => ?_
      obtain ⟨v, ev, rv⟩ := pick_unit (i := l) (j := j) (r8.mono g9) (r1'.mono (G.same.trans g79))
      refine hG_ ?_
      clear hG_
      rw [Int.zero_add]
      refine ⟨_, rfl, _, rfl, rfl, .inr ⟨_, rfl, p8, _, _, _, rfl, rfl, SqL.of hp9, ev, nxt hj ⟨g79, ?_⟩⟩⟩
      have e : (La.unitRow k n l)[j]? = some (if l = j then nnum k 1 else nnum k 0) := by unfold La.unitRow; rw [List.getElem?_map, List.getElem?_range hj]; rfl
      rw [take_snoc e]
      exact pd_snoc (pd_rn (g8.trans g9) pr7) rv
    · rintro ys' H7 ⟨g7, pr7⟩ pn hpn
      rw [List.take_of_length_le (by (first | lia | omega))] at pr7
      have npn : po ≠ pn := fun e => by rw [← e, g7 _ _ hpo6] at hpn; cases hpn
      have e1 := pd_len G.rows
      rw [List.length_take, lUn] at e1
      refine ⟨po, _, _, rfl, rfl, (by rw [upd_ne npn]; exact g7 _ _ hpo6), (by rw [List.length_map]; (first | lia | omega)), ?_⟩
      obtain ⟨G2, nm2⟩ := G.push (zs' := (rd.map V.ref) ++ [.ref pn]) hpo hpo6 npo g7 hpn pr7
      rw [← take_snoc (La.unitM_get hl)] at G2
      exact ⟨rd ++ [pn], _, rfl, G2, by rw [upd_same, List.map_append]; rfl, nm2⟩
  intro σ H6 hI2_
  refine hide fun _ hG_ => ?_
  obtain ⟨rd, o8, rfl, G, hpo6, npo⟩ := hI2_
  refine hG_ ?_
  clear hG_
  rw [List.take_of_length_le (by (first | lia | omega))] at G
  have TO : TabAt H6 (La.unitM k n) po rd := ⟨hpo6, G.rows⟩
  have g46 := g5.trans G.same
  have g16 := g14.trans g46
  have T6 := T1.mono g16
  have B6 := NB.tab.mono g46
  refine ⟨_, rfl, _, rfl, _, rfl, k, S, n, tb, rb, rfl, hk, B6, oS.ok, oS.len, fun H7 g7 => ⟨_, rfl, iteF ?_⟩⟩
  refine ⟨_, rfl, _, rfl, _, rfl, k, M, S, n, t, tb, ras, rb, rfl, hk, T6.mono g7, B6.mono g7, oM.up (by decide), oS, n1, n4, fun t8 r8 H8 g8 T8 => ?_⟩
  have eMS : prodM k n M S = La.unitM k n := pMS.prod hk oM.ok oM.len oS.ok oS.len
  have eSM : prodM k n S M = La.unitM k n := pSM.prod hk oS.ok oS.len oM.ok oM.len
  rw [eMS] at T8
  refine ⟨_, rfl, tabD _, tabD _, T8.rp, (TO.mono (g7.trans g8)).rp, tabD_lay _, tabD_lay _, Nat.le_trans (Nat.min_le_left _ _) (Nat.le_trans (tabD_depth _) (by decide)), _, rfl, ?_⟩
  rw [tabD_self]
  refine iteF ?_
  have g68 := g7.trans g8
  refine ⟨_, rfl, _, rfl, _, rfl, k, S, M, n, tb, t, rb, ras, rfl, hk, B6.mono g68, T6.mono g68, oS, oM.up (by decide), n1, n4, fun t9 r9 H9 g9 T9 => ?_⟩
  rw [eSM] at T9
  have g69 := g68.trans g9
  refine ⟨_, rfl, tabD _, tabD _, T9.rp, (TO.mono g69).rp, tabD_lay _, tabD_lay _, Nat.le_trans (Nat.min_le_left _ _) (Nat.le_trans (tabD_depth _) (by decide)), _, rfl, ?_⟩
  rw [tabD_self]
  refine iteF ?_
  -- a change of what was told
  have B9 := B6.mono g69
  have lrb := pd_len B9.2
  rw [oS.len] at lrb
  obtain ⟨c0, rb', e0⟩ : ∃ c0 rb', rb = c0 :: rb' := by
    cases rb with
    | nil => rw [List.length_nil] at lrb; (first | lia | omega)
    | cons a b => exact ⟨a, b, rfl⟩
  obtain ⟨m0, hm0, hc0⟩ := pd_right B9.2 (i := 0) (b := c0) (by rw [e0]; rfl)
  refine hide fun _ hG_ => ?_
  obtain ⟨u0, hu0, pu0, lu0⟩ := hc0.len
  refine hG_ ?_
  clear hG_
  have lm0 := (oS.ok m0 (List.mem_of_getElem? hm0)).1
  have f0 : H3 c0 = none := NB.fr c0 (by rw [e0]; exact List.mem_cons_self)
  refine ⟨_, rfl, tb, _, _, .ref c0, rfl, rfl, SqL.of B9.1, (by rw [e0]; exact atI_nat (j := 0) rfl), .inl ⟨rfl, _, SqL.of hu0⟩, c0, u0, _, rfl, rfl, hu0, (by (first | lia | omega)), ?_⟩
  have gz : Same H3 (upd H9 c0 (.lst (u0 ++ [V.non]))) := same_upd (g4.trans (g46.trans g69)) f0
  generalize upd H9 c0 (.lst (u0 ++ [V.non])) = Hz at *
  have g1z := g13.trans gz
  refine ⟨_, rfl, _, rfl, _, rfl, k, c, rfl, hk, fun t' ras' Hy gy Ty => ?_⟩
  rw [eM] at Ty
  have g1y := g1z.trans gy
  refine ⟨tabD _, tabD _, (T1.mono g1y).rp, Ty.rp, tabD_lay _, tabD_lay _, Nat.le_trans (Nat.min_le_left _ _) (Nat.le_trans (tabD_depth _) (by decide)), _, rfl, ?_⟩
  rw [tabD_self]
  refine iteF ?_
  exact ⟨_, _, _, _, _, _, _, _, rfl, g1y _ _ h1⟩
end
end KL
open PySem PySem.W PyProof.Rows
set_option maxRecDepth 100000 in
set_option maxHeartbeats 0 in
theorem PySem.Challenge.cw_steermill_k06_backs_holds : PySem.Challenge.rw_steermill_k06_backs.Holds := by
  w_on; o_law; k_head; (case hw => w_witness2)
  k_fill
  refine L2.walk (l := PySem.Challenge.rw_steermill_k06_backs) 48 rfl rfl ⟨rfl, by decide, by decide⟩ (by decide +kernel) (fun w h Y => PySem.W.kIn_of Y) ?F
  case F =>
    intro w mg fa h KX G hmg
    have df_common_divisor : L2.Df (L2.KOf KX) mg "common_divisor" ["one", "other"] KL.s_common_divisor := by
      dsimp only [L2.KOf]
      refine' L2.df_mk KX G ?a ?l ?c ?k ?b
      (case a => k_is); (case l => k_is); (case c => k_is); (case k => k_is)
      (case b => exact fun _ _ _ _ _ _ us hl => L2.bind2 (fun _ _ => rfl) us hl)
    have df_fraction : L2.Df (L2.KOf KX) mg "fraction" ["top", "bottom"] KL.s_fraction := by
      dsimp only [L2.KOf]
      refine' L2.df_mk KX G ?a ?l ?c ?k ?b
      (case a => k_is); (case l => k_is); (case c => k_is); (case k => k_is)
      (case b => exact fun _ _ _ _ _ _ us hl => L2.bind2 (fun _ _ => rfl) us hl)
    have df_one_over : L2.Df (L2.KOf KX) mg "one_over" ["prime", "rest"] KL.s_one_over := by
      dsimp only [L2.KOf]
      refine' L2.df_mk KX G ?a ?l ?c ?k ?b
      (case a => k_is); (case l => k_is); (case c => k_is); (case k => k_is)
      (case b => exact fun _ _ _ _ _ _ us hl => L2.bind2 (fun _ _ => rfl) us hl)
    have df_number : L2.Df (L2.KOf KX) mg "number" ["kind", "whole"] KL.s_number := by
      dsimp only [L2.KOf]
      refine' L2.df_mk KX G ?a ?l ?c ?k ?b
      (case a => k_is); (case l => k_is); (case c => k_is); (case k => k_is)
      (case b => exact fun _ _ _ _ _ _ us hl => L2.bind2 (fun _ _ => rfl) us hl)
    have df_over : L2.Df (L2.KOf KX) mg "over" ["kind", "one", "other"] KL.s_over := by
      dsimp only [L2.KOf]
      refine' L2.df_mk KX G ?a ?l ?c ?k ?b
      (case a => k_is); (case l => k_is); (case c => k_is); (case k => k_is)
      (case b => exact fun _ _ _ _ _ _ us hl => L2.bind3 (fun _ _ _ => rfl) us hl)
    have df_scaled : L2.Df (L2.KOf KX) mg "scaled" ["kind", "row"] KL.s_scaled := by
      dsimp only [L2.KOf]
      refine' L2.df_mk KX G ?a ?l ?c ?k ?b
      (case a => k_is); (case l => k_is); (case c => k_is); (case k => k_is)
      (case b => exact fun _ _ _ _ _ _ us hl => L2.bind2 (fun _ _ => rfl) us hl)
    have df_quotient : L2.Df (L2.KOf KX) mg "quotient" ["kind", "top", "bottom"] KL.s_quotient := by
      dsimp only [L2.KOf]
      refine' L2.df_mk KX G ?a ?l ?c ?k ?b
      (case a => k_is); (case l => k_is); (case c => k_is); (case k => k_is)
      (case b => exact fun _ _ _ _ _ _ us hl => L2.bind3 (fun _ _ _ => rfl) us hl)
    have df_eased : L2.Df (L2.KOf KX) mg "eased" ["kind", "wholes"] KL.s_eased := by
      dsimp only [L2.KOf]
      refine' L2.df_mk KX G ?a ?l ?c ?k ?b
      (case a => k_is); (case l => k_is); (case c => k_is); (case k => k_is)
      (case b => exact fun _ _ _ _ _ _ us hl => L2.bind2 (fun _ _ => rfl) us hl)
    have df_cleared : L2.Df (L2.KOf KX) mg "cleared" ["kind", "row", "lead_row", "column"] KL.s_cleared := by
      dsimp only [L2.KOf]
      refine' L2.df_mk KX G ?a ?l ?c ?k ?b
      (case a => k_is); (case l => k_is); (case c => k_is); (case k => k_is)
      (case b => exact fun _ _ _ _ _ _ us hl => L2.bind4 (fun _ _ _ _ => rfl) us hl)
    have df_swept : L2.Df (L2.KOf KX) mg "swept" ["kind", "rows"] KL.s_swept := by
      dsimp only [L2.KOf]
      refine' L2.df_mk KX G ?a ?l ?c ?k ?b
      (case a => k_is); (case l => k_is); (case c => k_is); (case k => k_is)
      (case b => exact fun _ _ _ _ _ _ us hl => L2.bind2 (fun _ _ => rfl) us hl)
    have df_abreast : L2.Df (L2.KOf KX) mg "abreast" ["one", "other"] KL.s_abreast := by
      dsimp only [L2.KOf]
      refine' L2.df_mk KX G ?a ?l ?c ?k ?b
      (case a => k_is); (case l => k_is); (case c => k_is); (case k => k_is)
      (case b => exact fun _ _ _ _ _ _ us hl => L2.bind2 (fun _ _ => rfl) us hl)
    have df_unit : L2.Df (L2.KOf KX) mg "unit" ["kind", "size"] KL.s_unit := by
      dsimp only [L2.KOf]
      refine' L2.df_mk KX G ?a ?l ?c ?k ?b
      (case a => k_is); (case l => k_is); (case c => k_is); (case k => k_is)
      (case b => exact fun _ _ _ _ _ _ us hl => L2.bind2 (fun _ _ => rfl) us hl)
    have df_over_lead : L2.Df (L2.KOf KX) mg "over_lead" ["kind", "wholes"] KL.s_over_lead := by
      dsimp only [L2.KOf]
      refine' L2.df_mk KX G ?a ?l ?c ?k ?b
      (case a => k_is); (case l => k_is); (case c => k_is); (case k => k_is)
      (case b => exact fun _ _ _ _ _ _ us hl => L2.bind2 (fun _ _ => rfl) us hl)
    have df_reduced : L2.Df (L2.KOf KX) mg "reduced" ["kind", "rows"] KL.s_reduced := by
      dsimp only [L2.KOf]
      refine' L2.df_mk KX G ?a ?l ?c ?k ?b
      (case a => k_is); (case l => k_is); (case c => k_is); (case k => k_is)
      (case b => exact fun _ _ _ _ _ _ us hl => L2.bind2 (fun _ _ => rfl) us hl)
    have df_back : L2.Df (L2.KOf KX) mg "back" ["kind", "table"] KL.s_back := by
      dsimp only [L2.KOf]
      refine' L2.df_mk KX G ?a ?l ?c ?k ?b
      (case a => k_is); (case l => k_is); (case c => k_is); (case k => k_is)
      (case b => exact fun _ _ _ _ _ _ us hl => L2.bind2 (fun _ _ => rfl) us hl)
    have df__law_mix : L2.Df (L2.KOf KX) mg "_law_mix" ["_law_cell", "_law_j"] KL.s__law_mix := by
      dsimp only [L2.KOf]
      refine' L2.df_mk KX G ?a ?l ?c ?k ?b
      (case a => k_is); (case l => k_is); (case c => k_is); (case k => k_is)
      (case b => exact fun _ _ _ _ _ _ us hl => L2.bind2 (fun _ _ => rfl) us hl)
    have df__law_whole : L2.Df (L2.KOf KX) mg "_law_whole" ["_law_found"] KL.s__law_whole := by
      dsimp only [L2.KOf]
      refine' L2.df_mk KX G ?a ?l ?c ?k ?b
      (case a => k_is); (case l => k_is); (case c => k_is); (case k => k_is)
      (case b => exact fun _ _ _ _ _ _ us hl => L2.bind1 (fun _ => rfl) us hl)
    have df__law_divisor : L2.Df (L2.KOf KX) mg "_law_divisor" ["_law_one", "_law_other"] KL.s__law_divisor := by
      dsimp only [L2.KOf]
      refine' L2.df_mk KX G ?a ?l ?c ?k ?b
      (case a => k_is); (case l => k_is); (case c => k_is); (case k => k_is)
      (case b => exact fun _ _ _ _ _ _ us hl => L2.bind2 (fun _ _ => rfl) us hl)
    have df__law_is_prime : L2.Df (L2.KOf KX) mg "_law_is_prime" ["_law_whole_here"] KL.s__law_is_prime := by
      dsimp only [L2.KOf]
      refine' L2.df_mk KX G ?a ?l ?c ?k ?b
      (case a => k_is); (case l => k_is); (case c => k_is); (case k => k_is)
      (case b => exact fun _ _ _ _ _ _ us hl => L2.bind1 (fun _ => rfl) us hl)
    have df__law_kind : L2.Df (L2.KOf KX) mg "_law_kind" ["_law_drawn"] KL.s__law_kind := by
      dsimp only [L2.KOf]
      refine' L2.df_mk KX G ?a ?l ?c ?k ?b
      (case a => k_is); (case l => k_is); (case c => k_is); (case k => k_is)
      (case b => exact fun _ _ _ _ _ _ us hl => L2.bind1 (fun _ => rfl) us hl)
    have df__law_lowest : L2.Df (L2.KOf KX) mg "_law_lowest" ["_law_top", "_law_bottom"] KL.s__law_lowest := by
      dsimp only [L2.KOf]
      refine' L2.df_mk KX G ?a ?l ?c ?k ?b
      (case a => k_is); (case l => k_is); (case c => k_is); (case k => k_is)
      (case b => exact fun _ _ _ _ _ _ us hl => L2.bind2 (fun _ _ => rfl) us hl)
    have df__law_number : L2.Df (L2.KOf KX) mg "_law_number" ["_law_kind_here", "_law_drawn"] KL.s__law_number := by
      dsimp only [L2.KOf]
      refine' L2.df_mk KX G ?a ?l ?c ?k ?b
      (case a => k_is); (case l => k_is); (case c => k_is); (case k => k_is)
      (case b => exact fun _ _ _ _ _ _ us hl => L2.bind2 (fun _ _ => rfl) us hl)
    have df__law_times : L2.Df (L2.KOf KX) mg "_law_times" ["_law_kind_here", "_law_one", "_law_other"] KL.s__law_times := by
      dsimp only [L2.KOf]
      refine' L2.df_mk KX G ?a ?l ?c ?k ?b
      (case a => k_is); (case l => k_is); (case c => k_is); (case k => k_is)
      (case b => exact fun _ _ _ _ _ _ us hl => L2.bind3 (fun _ _ _ => rfl) us hl)
    have df__law_less : L2.Df (L2.KOf KX) mg "_law_less" ["_law_kind_here", "_law_one", "_law_other"] KL.s__law_less := by
      dsimp only [L2.KOf]
      refine' L2.df_mk KX G ?a ?l ?c ?k ?b
      (case a => k_is); (case l => k_is); (case c => k_is); (case k => k_is)
      (case b => exact fun _ _ _ _ _ _ us hl => L2.bind3 (fun _ _ _ => rfl) us hl)
    have df__law_sum : L2.Df (L2.KOf KX) mg "_law_sum" ["_law_kind_here", "_law_one", "_law_other"] KL.s__law_sum := by
      dsimp only [L2.KOf]
      refine' L2.df_mk KX G ?a ?l ?c ?k ?b
      (case a => k_is); (case l => k_is); (case c => k_is); (case k => k_is)
      (case b => exact fun _ _ _ _ _ _ us hl => L2.bind3 (fun _ _ _ => rfl) us hl)
    have df__law_table : L2.Df (L2.KOf KX) mg "_law_table" ["_law_kind_here", "_law_cell"] KL.s__law_table := by
      dsimp only [L2.KOf]
      refine' L2.df_mk KX G ?a ?l ?c ?k ?b
      (case a => k_is); (case l => k_is); (case c => k_is); (case k => k_is)
      (case b => exact fun _ _ _ _ _ _ us hl => L2.bind2 (fun _ _ => rfl) us hl)
    have df__law_rank : L2.Df (L2.KOf KX) mg "_law_rank" ["_law_kind_here", "_law_table_here"] KL.s__law_rank := by
      dsimp only [L2.KOf]
      refine' L2.df_mk KX G ?a ?l ?c ?k ?b
      (case a => k_is); (case l => k_is); (case c => k_is); (case k => k_is)
      (case b => exact fun _ _ _ _ _ _ us hl => L2.bind2 (fun _ _ => rfl) us hl)
    have df__law_product : L2.Df (L2.KOf KX) mg "_law_product" ["_law_kind_here", "_law_one", "_law_other"] KL.s__law_product := by
      dsimp only [L2.KOf]
      refine' L2.df_mk KX G ?a ?l ?c ?k ?b
      (case a => k_is); (case l => k_is); (case c => k_is); (case k => k_is)
      (case b => exact fun _ _ _ _ _ _ us hl => L2.bind3 (fun _ _ _ => rfl) us hl)
    have df__law_is_table : L2.Df (L2.KOf KX) mg "_law_is_table" ["_law_kind_here", "_law_found", "_law_size"] KL.s__law_is_table := by
      dsimp only [L2.KOf]
      refine' L2.df_mk KX G ?a ?l ?c ?k ?b
      (case a => k_is); (case l => k_is); (case c => k_is); (case k => k_is)
      (case b => exact fun _ _ _ _ _ _ us hl => L2.bind3 (fun _ _ _ => rfl) us hl)
    have df__law_refused : L2.Df (L2.KOf KX) mg "_law_refused" ["_law_kind_here", "_law_table_here"] KL.s__law_refused := by
      dsimp only [L2.KOf]
      refine' L2.df_mk KX G ?a ?l ?c ?k ?b
      (case a => k_is); (case l => k_is); (case c => k_is); (case k => k_is)
      (case b => exact fun _ _ _ _ _ _ us hl => L2.bind2 (fun _ _ => rfl) us hl)
    have m_ValueError : mg "ValueError" = none := by
      refine' PySem.W.mg_none_of KX G ?z
      (case z => k_is)
    have m_abs : mg "abs" = none := by
      refine' PySem.W.mg_none_of KX G ?z
      (case z => k_is)
    have m_bool : mg "bool" = none := by
      refine' PySem.W.mg_none_of KX G ?z
      (case z => k_is)
    have m_int : mg "int" = none := by
      refine' PySem.W.mg_none_of KX G ?z
      (case z => k_is)
    have m_isinstance : mg "isinstance" = none := by
      refine' PySem.W.mg_none_of KX G ?z
      (case z => k_is)
    have m_len : mg "len" = none := by
      refine' PySem.W.mg_none_of KX G ?z
      (case z => k_is)
    have m_list : mg "list" = none := by
      refine' PySem.W.mg_none_of KX G ?z
      (case z => k_is)
    have m_range : mg "range" = none := by
      refine' PySem.W.mg_none_of KX G ?z
      (case z => k_is)
    have m_sum : mg "sum" = none := by
      refine' PySem.W.mg_none_of KX G ?z
      (case z => k_is)
    have m_tuple : mg "tuple" = none := by
      refine' PySem.W.mg_none_of KX G ?z
      (case z => k_is)
    have m_zip : mg "zip" = none := by
      refine' PySem.W.mg_none_of KX G ?z
      (case z => k_is)
    have dl : ∃ fd : FuncData, L2.Fun (L2.KOf KX) "law" "law" KL.s_law fa fd ∧ ∀ (s : Shared) (v : Value), BindsTo s fd ⟨[v], []⟩ [("_law_script", v)] := by
      dsimp only [L2.KOf]
      refine' L2.law_mk KX G hmg ?a ?l ?c ?k ?b
      (case a => k_is); (case l => k_is); (case c => k_is); (case k => k_is)
      (case b => exact fun _ _ _ _ _ _ _ => rfl)
    obtain ⟨fd, FL, hb⟩ := dl
    refine ⟨fd, hb, fun base _ _ hS => ?_⟩
    have hP : (PySem.Challenge.rw_steermill_k06_backs).prog.given.tree = none := rfl
    have xs0 : ∃ C B D1 D2 D3, L2.Exs (L2.KOf KX) mg C B D1 D2 D3 := by
      dsimp only [L2.KOf]
      refine' L2.exs_mk KX G ?a ?a1 ?a2 ?a3 ?a4 ?b ?k1 ?k2 ?k3 ?k4 ?k5 ?k6 ?k7 ?e1 ?e2 ?e3 ?no ?ve
      (case a => k_is); (case a1 => k_is); (case a2 => k_is); (case a3 => k_is); (case a4 => k_is)
      (case b => k_exc)
      (case k1 => k_is); (case k2 => k_is); (case k3 => k_is); (case k4 => k_is); (case k5 => k_is); (case k6 => k_is); (case k7 => k_is)
      (case e1 => k_is); (case e2 => k_is); (case e3 => k_is)
      (case no => kit_is); (case ve => kit_is)
    obtain ⟨C0, B0, D10, D20, D30, X0⟩ := xs0
    have a1 := KL.kn_cd (P := (PySem.Challenge.rw_steermill_k06_backs).prog) (w := w) (base := base) df_common_divisor m_abs
    have a2 := KL.kn_fraction hP hS df_fraction a1
    have a3 := KL.kn_one_over (P := (PySem.Challenge.rw_steermill_k06_backs).prog) (w := w) (base := base) hP hS df_one_over
    have a4 := KL.kn_number (P := (PySem.Challenge.rw_steermill_k06_backs).prog) (w := w) (base := base) df_number
    have a8 := KL.kn_over df_over a2 a4 a3
    have a9 := KL.kn_scaled hP hS df_scaled a1 m_list
    have a10 := KL.kn_quot df_quotient a8 a4
    have a11 := KL.kn_eased hP hS df_eased a1
    have a12 := KL.kn_cleared df_cleared a11 m_zip
    have a13 := KL.kn_swept df_swept a11 a12 m_len m_range
    have a14 := KL.kn_over_lead df_over_lead a10
    have a15 := KL.kn_reduced df_reduced a9 a13 a14
    have a16 := KL.kn_unit df_unit a4 m_range m_int
    have a17 := KL.kn_abreast (P := (PySem.Challenge.rw_steermill_k06_backs).prog) (w := w) (base := base) df_abreast m_zip
    have a18 := KL.kn_back X0.c df_back a16 a17 a15 m_len
    have b2 := KL.kn_is_prime (P := (PySem.Challenge.rw_steermill_k06_backs).prog) (w := w) (base := base) df__law_is_prime
    have b3 := KL.kn_kind hP hS df__law_kind b2
    have b4 := KL.kn_div (P := (PySem.Challenge.rw_steermill_k06_backs).prog) (w := w) (base := base) df__law_divisor m_abs
    have b5 := KL.kn_mix (P := (PySem.Challenge.rw_steermill_k06_backs).prog) (w := w) (base := base) df__law_mix
    have b6 := KL.kn_lowest hP hS df__law_lowest b4
    have b7 := KL.kn_lnumber hP hS df__law_number b6 m_int
    have b8 := KL.kn_whole (P := (PySem.Challenge.rw_steermill_k06_backs).prog) (w := w) (base := base) df__law_whole m_isinstance m_int m_bool
    have b9 := KL.kn_ltimes df__law_times b6
    have b9l := KL.kn_lless df__law_less b6
    have b10 := KL.kn_lsum df__law_sum b6 m_sum m_zip
    have b11 := KL.kn_ltable df__law_table b7 b5 b9 m_range
    have b12 := KL.kn_lprod df__law_product b10 m_len m_range
    have b13 := KL.kn_listab df__law_is_table b8 b6 m_isinstance m_list m_tuple m_len
    have b14 := KL.kn_lrefused X0 df__law_refused a18 m_isinstance m_ValueError
    have b15 := KL.kn_lrank df__law_rank b7 b9 b9l m_list m_range m_len m_zip
    exact KL.ok_law FL b3 b5 b11 b15 b14 a18 b7 b13 b12 m_len m_int m_range
#print axioms PySem.Challenge.cw_steermill_k06_backs_holds
