import PyProof.Rows.All
import Wide.All
import OpenK.AllK
import Wide.FinOn
import Lean
import PyProof.EqAt
import PyProof.EqKinds
import PyProof.TupleCall
import PySem.Challenge.RW_steermill_k11_turn_by_turn
set_option Elab.async false
set_option linter.all false
set_option maxRecDepth 100000
/-! THE HAND LAYER, for ints, bools, texts, own classes, LISTS and tuples (index, slices, in, append, pop ..), calls, loops. Paste it whole ahead of your own text; what your proof does not reach may be deleted. -/
namespace L2
open PySem PySem.Spec PyProof.Rows

/-- a key: an int or a str -/
abbrev Key := Sum Int Str
def keyIs : Key → Value → Bool
  | .inl k, v => Value.isInt k v
  | .inr x, v => Value.isStrOf x v
def keyH (w : World) : Key → Int
  | .inl k => hashInt k
  | .inr x => hashStr w x
theorem keyIs_shape : ∀ {k : Key} {v : Value}, keyIs k v = true → (∃ i t, k = Sum.inl i ∧ v = Value.int i t) ∨ (∃ x t, k = Sum.inr x ∧ v = Value.str x t)
  | .inl i, v, h => by
    obtain ⟨t, e⟩ := Value.isInt_shape (k := i) (v := v) h
    exact .inl ⟨i, t, rfl, e⟩
  | .inr x, v, h => by
    obtain ⟨t, e⟩ := Value.isStrOf_shape (x := x) (v := v) h
    exact .inr ⟨x, t, rfl, e⟩
theorem keyIs_int (i : Int) (t : Tok) : keyIs (.inl i) (.int i t) = true := by simp [keyIs, Value.isInt]
theorem keyIs_str (x : Str) (t : Tok) : keyIs (.inr x) (.str x t) = true := by simp [keyIs, Value.isStrOf]
theorem key_ll (a b : Int) : decide ((Sum.inl a : Key) = Sum.inl b) = (a == b) := by
  by_cases e : a = b
  · subst e; simp
  · have h : ¬ (Sum.inl a : Key) = Sum.inl b := fun q => e (Sum.inl.inj q)
    rw [decide_eq_false h]
    exact (beq_eq_false_iff_ne.mpr e).symm
theorem key_rr (a b : Str) : decide ((Sum.inr a : Key) = Sum.inr b) = decide (a = b) := by
  by_cases e : a = b
  · subst e; simp
  · have h : ¬ (Sum.inr a : Key) = Sum.inr b := fun q => e (Sum.inr.inj q)
    rw [decide_eq_false h, decide_eq_false e]
theorem key_lr (a : Int) (b : Str) : decide ((Sum.inl a : Key) = Sum.inr b) = false := decide_eq_false (fun q => nomatch q)
theorem key_rl (a : Str) (b : Int) : decide ((Sum.inr a : Key) = Sum.inl b) = false := decide_eq_false (fun q => nomatch q)

def mixKind (prog : Program) (w : World) : PySem.KeyKind prog w Key where
  is := keyIs
  hash := keyH w
  inj := fun v a b ha hb => by
    rcases keyIs_shape ha with ⟨i, t, rfl, rfl⟩ | ⟨x, t, rfl, rfl⟩
    · rcases keyIs_shape hb with ⟨j, u, rfl, e⟩ | ⟨y, u, rfl, e⟩
      · injection e with e1 _; rw [e1]
      · exact nomatch e
    · rcases keyIs_shape hb with ⟨j, u, rfl, e⟩ | ⟨y, u, rfl, e⟩
      · exact nomatch e
      · injection e with e1 _; rw [e1]
  byValue := fun k v h => by
    rcases keyIs_shape h with ⟨i, t, rfl, rfl⟩ | ⟨x, t, rfl, rfl⟩ <;> rfl
  pyHash := fun hv h => by
    rcases keyIs_shape hv with ⟨i, t, rfl, rfl⟩ | ⟨x, t, rfl, rfl⟩
    · exact wpAny_pyHash_int h
    · exact wpAny_pyHash_str h
  eqBool := fun hu hv h => by
    rcases keyIs_shape hu with ⟨i, t, rfl, rfl⟩ | ⟨x, t, rfl, rfl⟩
    · rcases keyIs_shape hv with ⟨j, u, rfl, rfl⟩ | ⟨y, u, rfl, rfl⟩
      · rw [key_ll] at h; exact wpAny_eqBool_int h
      · rw [key_lr] at h; exact SeqAt.EqAt.int_str i t y u _ _ _ _ h
    · rcases keyIs_shape hv with ⟨j, u, rfl, rfl⟩ | ⟨y, u, rfl, rfl⟩
      · rw [key_rl] at h; exact SeqAt.EqAt.str_int x t j u _ _ _ _ h
      · rw [key_rr] at h; exact wpAny_eqBool_str h
  «strs» := fun k x t v h => by
    rcases keyIs_shape h with ⟨i, u, rfl, e⟩ | ⟨y, u, rfl, e⟩
    · exact nomatch e
    · injection e with e1 _
      subst e1
      cases v <;> rfl

theorem mixKind_is (prog : Program) (w : World) (k : Key) (v : Value) : (mixKind prog w).is k v = keyIs k v := rfl
theorem mixKind_int (prog : Program) (w : World) (i : Int) (t : Tok) : (mixKind prog w).is (.inl i) (.int i t) = true := keyIs_int i t
theorem mixKind_str (prog : Program) (w : World) (x : Str) (t : Tok) : (mixKind prog w).is (.inr x) (.str x t) = true := keyIs_str x t
end L2

namespace L2
open PySem PySem.Spec PyProof.Rows

/-- a value, without the heap -/
inductive V where
  | non | bl (b : Bool) | int (i : Int) | str (x : Str) | byt (b : Array UInt8) | flt (b : UInt64) | ref (a : Addr) | ty (n : String)
  deriving DecidableEq

def RelV : V → Value → Prop
  | .non, u => u = Value.none
  | .bl b, u => u = Value.bool b
  | .int i, u => ∃ t, u = Value.int i t
  | .str x, u => ∃ t, u = Value.str x t
  | .byt b, u => ∃ t, u = Value.bytes b t
  | .flt b, u => ∃ t, u = Value.float b t
  | .ref a, u => u = Value.ref a
  | .ty n, u => u = Value.type n

abbrev Vals : List V → List Value → Prop := Paired RelV
theorem Vals.length {xs : List V} {us : List Value} (r : Vals xs us) : xs.length = us.length := Paired.length r
theorem Vals.get : ∀ {xs : List V} {us : List Value} {i : Nat} {x : V}, Vals xs us → xs[i]? = some x → ∃ u, us[i]? = some u ∧ RelV x u
  | _, _, _, _, .nil, e => by simp at e
  | _, _, 0, _, .cons r _, e => by simp at e; subst e; exact ⟨_, rfl, r⟩
  | _, _, i + 1, x, .cons _ t, e => by
    obtain ⟨u, h1, h2⟩ := Vals.get (i := i) (x := x) t (by simpa using e)
    exact ⟨u, by simpa using h1, h2⟩
theorem Vals.set {x : V} {u : Value} (r : RelV x u) : ∀ {xs : List V} {us : List Value} (i : Nat), Vals xs us → Vals (xs.set i x) (us.set i u)
  | _, _, _, .nil => .nil
  | _, _, 0, .cons _ t => .cons r t
  | _, _, i + 1, .cons q t => .cons q (Vals.set r i t)
theorem Vals.append : ∀ {xs ys : List V} {us ws : List Value}, Vals xs us → Vals ys ws → Vals (xs ++ ys) (us ++ ws)
  | _, _, _, _, .nil, s => s
  | _, _, _, _, .cons r t, s => .cons r (Vals.append t s)
theorem Vals.take : ∀ {xs : List V} {us : List Value} (n : Nat), Vals xs us → Vals (xs.take n) (us.take n)
  | _, _, 0, _ => .nil
  | _, _, _ + 1, .nil => .nil
  | _, _, n + 1, .cons r t => .cons r (Vals.take n t)
theorem Vals.drop : ∀ {xs : List V} {us : List Value} (n : Nat), Vals xs us → Vals (xs.drop n) (us.drop n)
  | _, _, 0, r => r
  | _, _, _ + 1, .nil => .nil
  | _, _, n + 1, .cons _ t => Vals.drop n t
theorem Vals.none_of : ∀ {xs : List V} {us : List Value} {i : Nat}, Vals xs us → xs[i]? = none → us[i]? = none := fun {xs us i} r e => by
  have h1 := r.length
  have h2 : xs.length ≤ i := List.getElem?_eq_none_iff.mp e
  exact List.getElem?_eq_none_iff.mpr (by omega)

def RelO : Option V → Option Value → Prop
  | some v, some u => RelV v u
  | none, none => True
  | _, _ => False
def KV {κ : Type} : List (κ × V) → List (κ × Value) → Prop := Paired fun (p : κ × V) (q : κ × Value) => p.1 = q.1 ∧ RelV p.2 q.2

/-- a key of a dict (00_mix): an int or a text -/
def kV : Key → V
  | .inl i => .int i
  | .inr x => .str x

/-- what stands at a tracked address -/
inductive HO where
  /-- a list -/
  | lst (xs : List V)
  /-- a tuple (never changes) -/
  | tup (xs : List V)
  /-- a dict whose keys are ints and texts; one whose keys are tuples of ints and texts (the empty one is both) -/
  | dK (kvs : List (Key × V)) | dT (kvs : List (List Key × V))
  /-- a set of ints: its members, its size -/
  | set (S : Int → Bool) (n : Nat)
  /-- an instance of the class at C, its dict at dx, its attributes -/
  | ins (C dx : Addr) (fs : List (Str × V))
  /-- the dict of the instance at x -/
  | own (x : Addr)
  /-- the dict of an exception -/
  | xd (fs : List (Str × V))
  /-- a bound method, f of x -/
  | met (f x : Addr)
  /-- a range object lo, lo + 1, .. below hi -/
  | rng (lo hi : Int)
  /-- a thing that is known to the object (the script; a dict while a loop walks it): read, never written while it is so -/
  | frz (o : Obj) (u : HO)
  /-- a code object's table -/
  | tbl (ps : Array Value)
  /-- any other thing, by what is true of its one object (a def of one's own: SetO a S n := HO.ext fun h => ..) -/
  | ext (φ : Heap → Prop)

abbrev Hp := Addr → Option HO
def upd (H : Hp) (a : Addr) (o : HO) : Hp := fun b => if b = a then some o else H b
theorem upd_same {H : Hp} {a : Addr} {o : HO} : upd H a o a = some o := by unfold upd; rw [if_pos rfl]
theorem upd_ne {H : Hp} {a b : Addr} {o : HO} (h : b ≠ a) : upd H a o b = H b := by unfold upd; rw [if_neg h]
theorem upd_upd {H : Hp} {a : Addr} {o u : HO} : upd (upd H a o) a u = upd H a u := by
  funext b; unfold upd; split <;> rfl
/-- two objects of different content stand apart -/
theorem ne_of {H : Hp} {a b : Addr} {o u : HO} (h : H a = some o) (h' : H b = some u) (d : o ≠ u) : a ≠ b := by
  intro e; subst e; rw [h] at h'; exact d (Option.some.inj h')
theorem ne_of_none {H : Hp} {a b : Addr} {o : HO} (h : H a = some o) (h' : H b = none) : a ≠ b := by
  intro e; subst e; rw [h] at h'; cases h'

section
variable (P : Program) (w : World)
def ObjOk (H : Hp) (h : Heap) (a : Addr) : HO → Prop
  | .lst xs => xs.length ≤ sizeLine ∧ ∃ (its : List Value) (n : Nat), Vals xs its ∧ h.get? a = some { cls := .type "list", data := .seq its.toArray n }
  | .tup xs => xs.length ≤ sizeLine ∧ ∃ its : List Value, Vals xs its ∧ IsTup h a its.toArray
  | .dK kvs => kvs.length ≤ sizeLine ∧ (a == sysModules) = false ∧ ∃ vs, KV kvs vs ∧ h.DictOf (mixKind P w) a vs
  | .dT kvs => kvs.length ≤ sizeLine ∧ (a == sysModules) = false ∧ ∃ xs : List (List Key × Addr × Value),
      Paired (fun (p : List Key × V) (q : List Key × Addr × Value) => p.1 = q.1 ∧ H q.2.1 = some (.tup (p.1.map kV)) ∧ RelV p.2 q.2.2) kvs xs ∧
      ∃ o es ep, h.get? a = some o ∧ o.ExactDict ∧ o.data = .dict es ep ∧ es.toList = xs.map (entryOfKey (tupleKind (mixKind P w))) ∧ (xs.map (·.1)).Nodup
  | .set S n => h.SetOf (intKind P w) a S n
  | .ins C dx fs => H dx = some (.own a) ∧ fs.length ≤ 1000 ∧ dx ≠ a ∧ h.get? a = some (PySem.W.instObj C dx) ∧
      ∃ mA, h.Ns1 dx mA ∧ (∀ f, RelO (fs.lookup f) (mA f)) ∧ PySem.Within mA (fs.map (·.1))
  | .own _ => ∃ o, h.get? a = some o
  | .xd fs => ∃ mA, h.Ns1 a mA ∧ ∀ f, RelO (fs.lookup f) (mA f)
  | .rng lo hi => ∃ t u v, h.get? a = some { cls := .type "range", data := .fields #[.int lo t, .int hi u, .int 1 v] }
  | .frz o u => h.get? a = some o ∧ ObjOk H h a u
  | .tbl ps => h.get? a = some { cls := .none, data := .fields ps }
  | .met f x => h.get? a = some (PySem.W.methodObj (.ref f) (.ref x))
  | .ext φ => φ h ∧ (∃ o, h.get? a = some o) ∧ ∀ h1 h2 : Heap, φ h1 → (∀ o, h1.get? a = some o → h2.get? a = some o) → φ h2
/-- the abstract heap is held -/
def HOk (H : Hp) (h : Heap) : Prop := ∀ a o, H a = some o → ObjOk P w H h a o
end

section
variable {P : Program} {w : World} {H H' : Hp} {h h' : Heap} {a : Addr} {o : HO}
theorem ObjOk.lt (x : ObjOk P w H h a o) : a < h.objs.size := by
  cases o with
  | lst xs => obtain ⟨_, _, _, _, e⟩ := x; exact Heap.lt_size e
  | tup xs => obtain ⟨_, _, _, p⟩ := x; exact p.lt
  | dK kvs => obtain ⟨_, _, _, _, o, _, _, e, _⟩ := x; exact Heap.lt_size e
  | dT kvs => obtain ⟨_, _, _, _, o, _, _, e, _⟩ := x; exact Heap.lt_size e
  | set S n => obtain ⟨o, _, _, _, e, _⟩ := x; exact Heap.lt_size e
  | ins C dx fs => obtain ⟨_, _, _, e, _⟩ := x; exact Heap.lt_size e
  | own y => obtain ⟨_, e⟩ := x; exact Heap.lt_size e
  | xd fs => obtain ⟨_, ⟨_, _, _, e, _⟩, _⟩ := x; exact Heap.lt_size e
  | rng lo hi => obtain ⟨_, _, _, e⟩ := x; exact Heap.lt_size e
  | frz ob u => obtain ⟨e, _⟩ := x; exact Heap.lt_size e
  | tbl ps => exact Heap.lt_size (show h.get? a = some _ from x)
  | met f y => exact Heap.lt_size (show h.get? a = some _ from x)
  | ext φ => obtain ⟨_, ⟨_, e⟩, _⟩ := x; exact Heap.lt_size e
theorem Paired.mapP {α β : Type} {F G : α → β → Prop} : ∀ {l₁ : List α} {l₂ : List β}, Paired F l₁ l₂ → (∀ a b, F a b → G a b) → Paired G l₁ l₂
  | _, _, .nil, _ => .nil
  | _, _, .cons r t, f => .cons (f _ _ r) (Paired.mapP t f)
theorem Paired.imp' {α β : Type} {F G : α → β → Prop} (f : ∀ a b, F a b → G a b) {l₁ : List α} {l₂ : List β} (r : Paired F l₁ l₂) : Paired G l₁ l₂ := Paired.mapP r f
/-- what an object's description leans on: its own object, its own dict, the tuples -/
theorem ObjOk.stay (x : ObjOk P w H h a o) (k : ∀ b u, (b = a ∨ H b = some (.own a)) → h.get? b = some u → h'.get? b = some u)
    (ho : ∀ b, H b = some (.own a) → H' b = some (.own a)) (ht : ∀ b xs, H b = some (.tup xs) → H' b = some (.tup xs)) : ObjOk P w H' h' a o := by
  induction o with
  | lst xs => obtain ⟨z, its, n, r, e⟩ := x; exact ⟨z, its, n, r, k _ _ (.inl rfl) e⟩
  | tup xs => obtain ⟨z, its, r, ob, e, c⟩ := x; exact ⟨z, its, r, ob, k _ _ (.inl rfl) e, c⟩
  | dK kvs => obtain ⟨z, y, vs, r, ob, es, ep, e, c⟩ := x; exact ⟨z, y, vs, r, ob, es, ep, k _ _ (.inl rfl) e, c⟩
  | dT kvs =>
    obtain ⟨z, y, xs, r, ob, es, ep, e, c⟩ := x
    exact ⟨z, y, xs, Paired.mapP r fun p q z => ⟨z.1, ht _ _ z.2.1, z.2.2⟩, ob, es, ep, k _ _ (.inl rfl) e, c⟩
  | set S n => obtain ⟨ob, es, ep, t, e, c⟩ := x; exact ⟨ob, es, ep, t, k _ _ (.inl rfl) e, c⟩
  | ins C dx fs =>
    obtain ⟨d, z, ne, e, mA, ⟨od, es, ep, e2, c⟩, r⟩ := x
    exact ⟨ho _ d, z, ne, k _ _ (.inl rfl) e, mA, ⟨od, es, ep, k _ _ (.inr d) e2, c⟩, r⟩
  | own y => obtain ⟨ob, e⟩ := x; exact ⟨ob, k _ _ (.inl rfl) e⟩
  | xd fs => obtain ⟨mA, ⟨od, es, ep, e, c⟩, r⟩ := x; exact ⟨mA, ⟨od, es, ep, k _ _ (.inl rfl) e, c⟩, r⟩
  | rng lo hi => obtain ⟨t, u, v, e⟩ := x; exact ⟨t, u, v, k _ _ (.inl rfl) e⟩
  | frz ob u ih => obtain ⟨e, q⟩ := x; exact ⟨k _ _ (.inl rfl) e, ih q⟩
  | tbl ps =>
    have e : h.get? a = some { cls := .none, data := .fields ps } := x
    show h'.get? a = some { cls := .none, data := .fields ps }
    exact k a _ (.inl rfl) e
  | met f y =>
    have e : h.get? a = some (PySem.W.methodObj (.ref f) (.ref y)) := x
    show h'.get? a = some (PySem.W.methodObj (.ref f) (.ref y))
    exact k a _ (.inl rfl) e
  | ext φ => obtain ⟨p, ⟨o, e⟩, st⟩ := x; exact ⟨st _ _ p fun o q => k _ _ (.inl rfl) q, ⟨o, k _ _ (.inl rfl) e⟩, st⟩
theorem HOk.lt (x : HOk P w H h) (e : H a = some o) : a < h.objs.size := (x a o e).lt
theorem HOk.fresh (x : HOk P w H h) (e : h.objs.size ≤ a) : H a = none := by
  cases q : H a with
  | none => rfl
  | some u => exact absurd (Nat.lt_of_lt_of_le (x.lt q) e) (Nat.lt_irrefl _)
/-- every object of the heap is kept -/
theorem HOk.kept (x : HOk P w H h) (k : ∀ b u, h.get? b = some u → h'.get? b = some u) : HOk P w H h' := fun a o e =>
  (x a o e).stay (fun b u _ q => k b u q) (fun _ q => q) fun _ _ q => q
/-- a new object is laid and tracked -/
theorem HOk.laid (x : HOk P w H h) (k : ∀ b u, h.get? b = some u → h'.get? b = some u) (hp : h.objs.size ≤ a) (new : ObjOk P w (upd H a o) h' a o) : HOk P w (upd H a o) h' := fun b u e => by
  have hn := x.fresh hp
  by_cases hb : b = a
  · subst hb; rw [upd_same] at e; cases e; exact new
  · rw [upd_ne hb] at e
    exact (x b u e).stay (fun c v _ q => k c v q) (fun c q => by rw [upd_ne (ne_of_none q hn)]; exact q) fun c xs q => by rw [upd_ne (ne_of_none q hn)]; exact q
end

/-- what may be read as u: it is u, or a known u -/
def Rd (H : Hp) (a : Addr) (u : HO) : Prop := H a = some u ∨ ∃ o, H a = some (.frz o u)
theorem Rd.of {H : Hp} {a : Addr} {u : HO} (h : H a = some u) : Rd H a u := .inl h
theorem Rd.ok {P : Program} {w : World} {H : Hp} {h : Heap} {a : Addr} {u : HO} (r : Rd H a u) (x : HOk P w H h) : ObjOk P w H h a u := by
  rcases r with r | ⟨o, r⟩
  · exact x a u r
  · obtain ⟨_, q⟩ := x a _ r
    exact q
/-- what may be written -/
def Mut : Option HO → Prop
  | some (.lst _) => True
  | some (.dK _) => True
  | some (.dT _) => True
  | some (.set _ _) => True
  | some (.ins _ _ _) => True
  | some (.ext _) => True
  | _ => False
section
variable {P : Program} {w : World} {H : Hp} {h h' : Heap} {x e : Addr} {o' : HO}
/-- the object at e is changed: x itself, or the dict of the instance x -/
theorem HOk.write (ok : HOk P w H h) (mu : Mut (H x)) (he : e = x ∨ H e = some (.own x)) (k : ∀ b u, b ≠ e → h.get? b = some u → h'.get? b = some u) (heo : ∃ u, h'.get? e = some u)
    (new : ObjOk P w (upd H x o') h' x o') : HOk P w (upd H x o') h' := fun b u q => by
  have nown : ∀ c y, H c = some (.own y) → c ≠ x := fun c y r z => by subst z; rw [r] at mu; exact mu
  have ntup : ∀ c xs, H c = some (.tup xs) → c ≠ x := fun c xs r z => by subst z; rw [r] at mu; exact mu
  by_cases hb : b = x
  · subst hb; rw [upd_same] at q; cases q; exact new
  · rw [upd_ne hb] at q
    by_cases hbe : b = e
    · have q' : H b = some (.own x) := by
        rcases he with z | z
        · exact absurd (hbe.trans z) hb
        · rw [hbe]; exact z
      rw [q] at q'; cases q'
      obtain ⟨v, hv⟩ := heo
      exact ⟨v, by rw [hbe]; exact hv⟩
    · refine (ok b u q).stay (fun c v hc r => k c v ?_ r) (fun c r => by rw [upd_ne (nown c b r)]; exact r) fun c xs r => by rw [upd_ne (ntup c xs r)]; exact r
      rcases hc with rfl | hc
      · exact hbe
      · rintro rfl
        rcases he with z | z
        · exact nown c b hc z
        · rw [hc] at z; cases z; exact hb rfl
end

/-! ### kept unless tracked; of the frames at fs (the callers') the slots may change (an exception that passes writes there); of the records at ex (iterators) nothing is said -/
structure Un (fs ex : List Addr) (H H' : Hp) (h h' : Heap) : Prop where
  keep : ∀ b o, h.get? b = some o → H b = none → b ∉ fs → b ∉ ex → h'.get? b = some o
  slot : ∀ b o, h.get? b = some o → H b = none → b ∈ fs → b ∉ ex → ∃ sl, h'.get? b = some { o with slots := sl }
  free : ∀ b o, h.get? b = some o → H b = none → b ∉ ex → H' b = none
  there : ∀ b o, h.get? b = some o → b ∉ ex → ∃ o', h'.get? b = some o'
  tups : ∀ b xs, H b = some (.tup xs) → H' b = some (.tup xs)
  frzs : ∀ b o u, H b = some (.frz o u) → H' b = some (.frz o u)
  tbls : ∀ b ps, H b = some (.tbl ps) → ∃ more, H' b = some (.tbl (ps ++ more))
section
variable {fs fs' ex ex' : List Addr} {H H1 H2 : Hp} {h h1 h2 h' : Heap} {a x e : Addr} {o : HO}
theorem Un.any (u : Un fs ex H H1 h h1) {b : Addr} {ob : Obj} (q : h.get? b = some ob) (n : H b = none) (hx : b ∉ ex) : ∃ sl, h1.get? b = some { ob with slots := sl } := by
  by_cases hb : b ∈ fs
  · exact u.slot b ob q n hb hx
  · exact ⟨ob.slots, u.keep b ob q n hb hx⟩
theorem Un.trans (a : Un fs ex H H1 h h1) (b : Un fs ex H1 H2 h1 h2) : Un fs ex H H2 h h2 where
  keep := fun c ob q n hc hx => b.keep c ob (a.keep c ob q n hc hx) (a.free c ob q n hx) hc hx
  slot := fun c ob q n hc hx => by
    obtain ⟨sl, e1⟩ := a.slot c ob q n hc hx
    obtain ⟨sl', e2⟩ := b.slot c _ e1 (a.free c ob q n hx) hc hx
    exact ⟨sl', e2⟩
  free := fun c ob q n hx => by
    obtain ⟨o', e1⟩ := a.there c ob q hx
    exact b.free c o' e1 (a.free c ob q n hx) hx
  there := fun c ob q hx => by
    obtain ⟨o', e1⟩ := a.there c ob q hx
    exact b.there c o' e1 hx
  tups := fun c xs q => b.tups c xs (a.tups c xs q)
  frzs := fun c ob xs q => b.frzs c ob xs (a.frzs c ob xs q)
  tbls := fun c ps q => by
    obtain ⟨m1, e1⟩ := a.tbls c ps q
    obtain ⟨m2, e2⟩ := b.tbls c _ e1
    exact ⟨m1 ++ m2, by rw [e2, Array.append_assoc]⟩
theorem Un.kept (k : ∀ b u, h.get? b = some u → h'.get? b = some u) : Un fs ex H H h h' :=
  ⟨fun b ob q _ _ _ => k b ob q, fun b ob q _ _ _ => ⟨ob.slots, k b ob q⟩, fun _ _ _ n _ => n, fun b ob q _ => ⟨ob, k b ob q⟩, fun _ _ q => q, fun _ _ _ q => q, fun _ ps q => ⟨#[], by rw [q]; simp⟩⟩
theorem Un.refl : Un fs ex H H h h := Un.kept fun _ _ q => q
theorem Un.laid (k : ∀ b u, h.get? b = some u → h'.get? b = some u) (hp : h.objs.size ≤ a) (hn : H a = none) : Un fs ex H (upd H a o) h h' where
  keep := fun b u q _ _ _ => k b u q
  slot := fun b u q _ _ _ => ⟨u.slots, k b u q⟩
  free := fun b u q n _ => by rw [upd_ne (Nat.ne_of_lt (Nat.lt_of_lt_of_le (Heap.lt_size q) hp))]; exact n
  there := fun b u q _ => ⟨u, k b u q⟩
  tups := fun b xs q => by rw [upd_ne (ne_of_none q hn)]; exact q
  frzs := fun b u xs q => by rw [upd_ne (ne_of_none q hn)]; exact q
  tbls := fun b ps q => ⟨#[], by rw [upd_ne (ne_of_none q hn), q]; simp⟩
theorem Un.write (mu : Mut (H x)) (he : e = x ∨ H e = some (.own x)) (k : ∀ b u, b ≠ e → h.get? b = some u → h'.get? b = some u) (heo : ∃ u, h'.get? e = some u) : Un fs ex H (upd H x o) h h' := by
  have hx : ∀ b, H b = none → b ≠ x := fun b n z => by subst z; rw [n] at mu; exact mu
  have hb : ∀ b, H b = none → b ≠ e := fun b n z => by
    subst z
    rcases he with r | r
    · exact hx b n r
    · rw [n] at r; cases r
  have hm : ∀ b u, H b = some u → ¬ Mut (some u) → b ≠ x := fun b u q nm z => by subst z; rw [q] at mu; exact nm mu
  refine ⟨fun b u q n _ _ => k b u (hb b n) q, fun b u q n _ _ => ⟨u.slots, k b u (hb b n) q⟩, fun b u q n _ => by rw [upd_ne (hx b n)]; exact n, fun b u q _ => ?_,
    fun b xs q => by rw [upd_ne (hm b _ q fun z => z)]; exact q, fun b u xs q => by rw [upd_ne (hm b _ q fun z => z)]; exact q, fun b ps q => ⟨#[], by rw [upd_ne (hm b _ q fun z => z), q]; simp⟩⟩
  by_cases hbe : b = e
  · subst hbe; exact heo
  · exact ⟨u, k b u hbe q⟩
theorem Un.mono (u : Un fs ex H H1 h h1) (hs : ∀ b ∈ fs, b ∈ fs') (hx : ∀ b ∈ ex, b ∈ ex') : Un fs' ex' H H1 h h1 :=
  ⟨fun b ob q n hb he => u.keep b ob q n (fun z => hb (hs b z)) fun z => he (hx b z), fun _ _ q n _ he => u.any q n fun z => he (hx _ z), fun b ob q n he => u.free b ob q n fun z => he (hx b z), fun b ob q he => u.there b ob q fun z => he (hx b z), u.tups, u.frzs, u.tbls⟩
end

/-! ### the heap without what is tracked -/
def trk (h : Heap) (H : Hp) : List Addr := (List.range h.objs.size).filter fun a => (H a).isSome
def hidT (h : Heap) (H : Hp) : Heap := PySem.W.hideAll h (trk h H)
theorem hidT_size (h : Heap) (H : Hp) : (hidT h H).objs.size = h.objs.size := PySem.W.hideAll_size _ _
theorem hidT_get {h : Heap} {H : Hp} {b : Addr} {o : Obj} (e : h.get? b = some o) (n : H b = none) : (hidT h H).get? b = some o :=
  PySem.W.hideAll_get _ e fun hm => by
    have q : (H b).isSome = true := (List.mem_filter.mp hm).2
    rw [n] at q; simp at q
theorem of_hidT {h : Heap} {H : Hp} {b : Addr} {o : Obj} (e : (hidT h H).get? b = some o) : h.get? b = some o ∧ H b = none := by
  have e' : h.get? b = some o := PySem.W.of_hideAll (trk h H) e
  refine ⟨e', ?_⟩
  cases q : H b with
  | none => rfl
  | some x =>
    have hm : b ∈ trk h H := List.mem_filter.mpr ⟨List.mem_range.mpr (Heap.lt_size e'), by simp [q]⟩
    have z : (hidT h H).get? b = none := PySem.W.hideAll_none (trk h H) hm
    rw [z] at e; cases e

/-! ### OpenK's ledger, filled with every new object but one -/
def allNews (g h : Heap) (L : Addr) : List (Addr × Obj) := (List.range h.objs.size).filterMap fun a => if a = L ∨ (g.get? a).isSome = true then none else (h.get? a).map fun o => (a, o)
theorem mem_allNews {g h : Heap} {L a : Addr} {o : Obj} (h1 : a ≠ L) (h2 : g.get? a = none) (h3 : h.get? a = some o) : (a, o) ∈ allNews g h L :=
  List.mem_filterMap.mpr ⟨a, List.mem_range.mpr (Heap.lt_size h3), by simp [h1, h2, h3]⟩
theorem of_mem_allNews {g h : Heap} {L : Addr} {p : Addr × Obj} (hp : p ∈ allNews g h L) : p.1 ≠ L ∧ g.get? p.1 = none ∧ h.get? p.1 = some p.2 := by
  obtain ⟨b, _, e⟩ := List.mem_filterMap.mp hp
  split at e
  · cases e
  · rename_i hn
    cases q : h.get? b with
    | none => rw [q] at e; simp at e
    | some u =>
      rw [q] at e
      simp only [Option.map_some, Option.some.injEq] at e
      subst e
      refine ⟨fun z => hn (.inl z), ?_, q⟩
      show g.get? b = none
      cases r : g.get? b with
      | none => rfl
      | some v => exact (hn (.inr (by simp [r]))).elim
def rest (g h : Heap) (L d : Addr) : List (Addr × Obj) := (allNews g h L).filter fun p => decide (p.1 ≠ d)
theorem rest_ne {g h : Heap} {L d : Addr} : ∀ p ∈ rest g h L d, p.1 ≠ d := fun p hp => of_decide_eq_true (List.mem_filter.mp hp).2
theorem mem_rest {g h : Heap} {L d a : Addr} {o : Obj} (h1 : a ≠ L) (h2 : g.get? a = none) (h3 : h.get? a = some o) (h4 : a ≠ d) : (a, o) ∈ rest g h L d :=
  List.mem_filter.mpr ⟨mem_allNews h1 h2 h3, decide_eq_true h4⟩
theorem news_all {g h : Heap} {L : Addr} : News g L h (allNews g h L) := fun p hp => let ⟨a, b, c⟩ := of_mem_allNews hp; ⟨c, a, b⟩
theorem news_at {g h : Heap} {L d : Addr} {o : Obj} (h1 : d ≠ L) (h2 : g.get? d = none) (h3 : h.get? d = some o) : News g L h ((d, o) :: rest g h L d) := fun p hp => by
  rcases List.mem_cons.mp hp with rfl | hp
  · exact ⟨h3, h1, h2⟩
  · exact news_all p (List.mem_filter.mp hp).1
/-- behind a rule that changed d alone: all else but the frame is kept -/
theorem kept_of_news {g h h' : Heap} {L d : Addr} {m : Str → Option Value} (k : ∀ b o, g.get? b = some o → h.get? b = some o) (F : Fr g L h' m) (N : News g L h' (rest g h L d)) :
    ∀ b o, b ≠ L → b ≠ d → h.get? b = some o → h'.get? b = some o := fun b o h1 h2 e => by
  cases q : g.get? b with
  | some u =>
    have := k b u q
    rw [e] at this; cases this
    exact F.keep b _ q
  | none => exact (N (b, o) (mem_rest h1 q e h2)).1
end L2

namespace L2
open PySem PySem.Spec PyProof.Rows

/-- the module's facts, over the base: the heap at the law's entry without what is tracked there -/
structure Mod (K : PySem.W.Frag) (mg : Str → Option Value) (base : Heap) : Prop where
  kin : K.In base
  glob : base.Ns mainGlobals mg
  blt : ∃ mb, base.Ns builtinsNs mb ∧ ∀ x : Str, x ≠ "__name__" → mb x = bootBuiltins x
  nolimit : base.NoLimit

/-- the context: a def's body (or a comprehension's block) running. base: fixed through the whole law; s₀, H₀: the entry; outer: the frames whose slots others may change (a def's callers); stack: all frames that run;
   ex: iterators that were made ahead of the entry and are walked here (a comprehension's); fn: the names whose cells were made at the entry (a def: all; a comprehension's block: its own); calm: not within an except suite; pn: pins that every state bears; xe: what is wanted of an exception that leaves the code -/
structure Cx where
  prog : Program
  w : World
  K : PySem.W.Frag
  mg : Str → Option Value
  base : Heap
  A : Around
  N : List Str
  s₀ : Shared
  H₀ : Hp
  env : Env
  outer : List Env
  stack : List Env
  ex : List Addr
  fn : Str → Bool
  calm : Bool
  pn : List (Addr × Obj)
  xe : Value → Shared → Prop
/-- the callers' frames -/
def frs (l : List Env) : List Addr := l.filterMap (·.frame)
abbrev Cx.fs (X : Cx) : List Addr := frs X.outer

def Vis (sc : Scope) (x : Str) : Prop := sc.names.lookup x = some .local ∨ sc.names.lookup x = some .cell ∨ sc.names.lookup x = some .free
def Loc (sc : Scope) (x : Str) : Prop := sc.names.lookup x = some .local ∨ sc.names.lookup x = some .cell
def Look (env : Env) (h : Heap) (m : Str → Option Value) (x : Str) (u : Value) : Prop :=
  (env.kindOf x = some .local ∧ m x = some u) ∨ ((env.kindOf x = some .cell ∨ env.kindOf x = some .free) ∧ ∃ c, env.cells.lookup x = some c ∧ h.IsCell c (some u))

structure Cx.Ok (X : Cx) : Prop where
  mod : Mod X.K X.mg X.base
  kind : X.env.scope.kind = .function
  glob : X.env.globals = mainGlobals
  blt : X.env.builtins = builtinsNs
  above : X.s₀.heap.objs.size ≤ X.env.locals
  inj : ∀ x y c, X.env.cells.lookup x = some c → X.env.cells.lookup y = some c → x = y
  has : ∀ x, (X.env.kindOf x = some .cell ∨ X.env.kindOf x = some .free) → ∃ c, X.env.cells.lookup x = some c
  cab : ∀ x c, X.fn x = true → X.env.cells.lookup x = some c → X.s₀.heap.objs.size ≤ c
  hd : X.calm = true → X.A.handled = none
  frames : X.A.frames = some X.stack
  stk : X.stack = X.outer ∨ (X.stack = X.env :: X.outer ∧ X.env.frame = some X.env.locals)
  exf : ∀ b ∈ X.ex, b ≠ X.env.locals ∧ ∀ x c, X.env.cells.lookup x = some c → c ≠ b
  bs : ∀ b o, X.base.get? b = some o → X.s₀.heap.get? b = some o ∧ X.H₀ b = none
  bsz : X.base.objs.size ≤ X.s₀.heap.objs.size
  noex : ∀ b o, X.base.get? b = some o → b ∉ X.ex
  exfs : ∀ b ∈ X.ex, b ∉ X.fs
  funs : X.s₀.heap.FunFrames X.base X.outer
  frf : ∀ b ∈ X.fs, X.H₀ b = none

structure Inv (X : Cx) (pins : List (Addr × Obj)) (σ : List (Option V)) (H : Hp) (s : Shared) : Prop where
  ok : X.Ok
  os : s.os = X.s₀.os
  bare : AllBare s.gens
  base : Un X.fs X.ex X.H₀ H X.s₀.heap s.heap
  loc : ∃ m, s.heap.Ns X.env.locals m ∧ ∀ (i : Nat) (x : Str) (v : V), X.N[i]? = some x → σ[i]? = some (some v) → Vis X.env.scope x → ∃ u, RelV v u ∧ Look X.env s.heap m x u
  cell : ∀ x c, X.env.cells.lookup x = some c → ∃ v, s.heap.IsCell c v
  free : H X.env.locals = none
  freeC : ∀ x c, X.env.cells.lookup x = some c → H c = none
  pin : ∀ p ∈ X.pn ++ pins, s.heap.get? p.1 = some p.2 ∧ H p.1 = none ∧ p.1 ≠ X.env.locals ∧ p.1 ∉ X.fs ∧ ∀ v, p.2.data ≠ .cell v
  hok : HOk X.prog X.w H s.heap
  len : σ.length = X.N.length

section
variable {X : Cx} {pins : List (Addr × Obj)} {σ : List (Option V)} {H H' : Hp} {s : Shared} {h' : Heap}

theorem Cx.Ok.nofr (ok : X.Ok) {b : Addr} {o : Obj} (e : X.base.get? b = some o) : b ∉ X.fs := fun hb => by
  have := (ok.funs.mem hb).1
  rw [e] at this; cases this
theorem Inv.bs (I : Inv X pins σ H s) : ∀ b o, X.base.get? b = some o → s.heap.get? b = some o ∧ H b = none := fun b o e =>
  ⟨I.base.keep b o (I.ok.bs b o e).1 (I.ok.bs b o e).2 (I.ok.nofr e) (I.ok.noex b o e), I.base.free b o (I.ok.bs b o e).1 (I.ok.bs b o e).2 (I.ok.noex b o e)⟩
theorem Inv.bk (I : Inv X pins σ H s) : ∀ b o, X.base.get? b = some o → s.heap.get? b = some o := fun b o e => (I.bs b o e).1
theorem Inv.mod (I : Inv X pins σ H s) : Mod X.K X.mg X.base := I.ok.mod
theorem Inv.kIn (I : Inv X pins σ H s) : X.K.In s.heap := I.ok.mod.kin.keeps I.bk
theorem Inv.nolimit (I : Inv X pins σ H s) : s.heap.NoLimit := I.ok.mod.nolimit.keeps I.bk
/-- the frame over the base: for OpenK's rules (K.In X.base is I.mod.kin) -/
theorem Inv.fr (I : Inv X pins σ H s) : ∃ m, Fr X.base X.env.locals s.heap m :=
  let ⟨m, hn, _⟩ := I.loc
  ⟨m, hn, I.bk, Nat.le_trans I.ok.bsz I.ok.above⟩
theorem Inv.lt (I : Inv X pins σ H s) : X.env.locals < s.heap.objs.size := let ⟨_, hn, _⟩ := I.loc; hn.lt
theorem Inv.sz (I : Inv X pins σ H s) : X.s₀.heap.objs.size ≤ s.heap.objs.size := Nat.le_trans I.ok.above (Nat.le_of_lt I.lt)
theorem Inv.nofs (I : Inv X pins σ H s) {a : Addr} (h : s.heap.objs.size ≤ a) : a ∉ X.fs := fun hb => by
  obtain ⟨_, o, ho, _⟩ := I.ok.funs.mem hb
  exact absurd (Nat.lt_of_lt_of_le (Heap.lt_size ho) (Nat.le_trans I.sz h)) (Nat.lt_irrefl _)
theorem Inv.cne (I : Inv X pins σ H s) : ∀ x c, X.env.cells.lookup x = some c → c ≠ X.env.locals := fun x c e z => by
  obtain ⟨v, o, ho, hd⟩ := I.cell x c e
  obtain ⟨m, ⟨o', es, ep, ho', hd', _⟩, _⟩ := I.loc
  rw [z, ho'] at ho; cases ho; rw [hd'] at hd; cases hd
theorem Inv.funs (I : Inv X pins σ H s) : s.heap.FunFrames X.base X.outer := by
  have all : ∀ (l : List Env), (∀ b ∈ frs l, b ∈ X.fs) → X.s₀.heap.FunFrames X.base l → s.heap.FunFrames X.base l := by
    intro l
    induction l with
    | nil => intro _ _; trivial
    | cons env r ih =>
      intro hs hl
      obtain ⟨hk, ⟨L, o, hf, hn, ho, hd⟩, hr⟩ := hl
      have hL : L ∈ X.fs := hs L (by unfold frs; rw [List.filterMap_cons, hf]; exact List.mem_cons_self)
      obtain ⟨sl, e⟩ := I.base.slot L o ho (I.ok.frf L hL) hL fun z => I.ok.exfs L z hL
      exact ⟨hk, ⟨L, _, hf, hn, e, hd⟩, ih (fun b hb => hs b (by unfold frs; rw [List.filterMap_cons, hf]; exact List.mem_cons_of_mem _ hb)) hr⟩
  exact all X.outer (fun _ hb => hb) I.ok.funs

/-- the frames that run, for a call -/
theorem Inv.stack (I : Inv X pins σ H s) : s.heap.FunFrames X.base X.stack := by
  rcases I.ok.stk with e | ⟨e, hf⟩
  · rw [e]; exact I.funs
  · rw [e]
    obtain ⟨m, hn, _⟩ := I.loc
    refine .cons (by rw [I.ok.kind]; decide) hf hn ?_ I.funs
    exact Heap.get?_none_of_le (Nat.le_trans I.ok.bsz I.ok.above)
theorem Inv.stkSub (I : Inv X pins σ H s) : ∀ b ∈ frs X.stack, b ∈ X.env.locals :: X.fs := fun b hb => by
  rcases I.ok.stk with e | ⟨e, hf⟩
  · rw [e] at hb; exact List.mem_cons_of_mem _ hb
  · rw [e] at hb
    unfold frs at hb
    rw [List.filterMap_cons, hf] at hb
    exact hb
theorem Inv.stkFree (I : Inv X pins σ H s) : ∀ b ∈ frs X.stack, H b = none := fun b hb => by
  rcases List.mem_cons.mp (I.stkSub b hb) with e | hb
  · rw [e]; exact I.free
  · obtain ⟨_, o, ho, _⟩ := I.ok.funs.mem hb
    exact I.base.free b o ho (I.ok.frf b hb) fun z => I.ok.exfs b z hb

/-- THE STEP: the untracked objects but the frame and the records at ch are kept (the callers' frames up to slots), the frame's map is kept, the new abstract heap is held -/
theorem Inv.step {g' : Array GenState} {t' : Nat} {d' : Drawn} {ch : List Addr} (I : Inv X pins σ H s)
    (hch : ∀ b ∈ ch, (b ∈ X.ex ∨ X.s₀.heap.objs.size ≤ b) ∧ b ≠ X.env.locals ∧ (∀ x c, X.env.cells.lookup x = some c → c ≠ b) ∧ ∀ p ∈ X.pn ++ pins, p.1 ≠ b)
    (keep : ∀ b o, b ≠ X.env.locals → b ∉ X.fs → b ∉ ch → s.heap.get? b = some o → H b = none → h'.get? b = some o)
    (slot : ∀ b o, b ≠ X.env.locals → b ∈ X.fs → b ∉ ch → s.heap.get? b = some o → H b = none → ∃ sl, h'.get? b = some { o with slots := sl }) (free : ∀ b o, b ∉ ch → s.heap.get? b = some o → H b = none → H' b = none)
    (there : ∀ b o, b ∉ ch → s.heap.get? b = some o → ∃ o', h'.get? b = some o')
    (tups : ∀ b xs, H b = some (.tup xs) → H' b = some (.tup xs)) (frzs : ∀ b o u, H b = some (.frz o u) → H' b = some (.frz o u)) (tbls : ∀ b ps, H b = some (.tbl ps) → ∃ more, H' b = some (.tbl (ps ++ more)))
    (ns : ∀ m, s.heap.Ns X.env.locals m → h'.Ns X.env.locals m) (hok : HOk X.prog X.w H' h') (hg : AllBare g') :
    Inv X pins σ H' { s with heap := h', gens := g', drawn := d', toks := t' } := by
  have neL : ∀ b o, X.s₀.heap.get? b = some o → b ≠ X.env.locals := fun b o e => Nat.ne_of_lt (Nat.lt_of_lt_of_le (Heap.lt_size e) I.ok.above)
  have neC : ∀ b o, X.s₀.heap.get? b = some o → b ∉ X.ex → b ∉ ch := fun b o e hx hb => by
    rcases (hch b hb).1 with z | z
    · exact hx z
    · exact absurd (Nat.lt_of_lt_of_le (Heap.lt_size e) z) (Nat.lt_irrefl _)
  have cellK : ∀ x c, X.env.cells.lookup x = some c → ∀ v, s.heap.IsCell c v → h'.IsCell c v := fun x c e v ⟨o, ho, hd⟩ => by
    have nch : c ∉ ch := fun z => (hch c z).2.2.1 x c e rfl
    by_cases hc : c ∈ X.fs
    · obtain ⟨sl, q⟩ := slot c o (I.cne x c e) hc nch ho (I.freeC x c e)
      exact ⟨_, q, hd⟩
    · exact ⟨o, keep c o (I.cne x c e) hc nch ho (I.freeC x c e), hd⟩
  refine ⟨I.ok, I.os, hg, ⟨fun b o e n hb hx => ?_, fun b o e n hb hx => ?_, fun b o e n hx => ?_, fun b o e hx => ?_, fun b xs e => tups b xs (I.base.tups b xs e), fun b o xs e => frzs b o xs (I.base.frzs b o xs e), fun b ps e => ?_⟩, ?_, fun x c e => ?_, ?_, fun x c e => ?_, fun p hp => ?_, hok, I.len⟩
  · exact keep b o (neL b o e) hb (neC b o e hx) (I.base.keep b o e n hb hx) (I.base.free b o e n hx)
  · obtain ⟨sl, e1⟩ := I.base.slot b o e n hb hx
    obtain ⟨sl', e2⟩ := slot b _ (neL b o e) hb (neC b o e hx) e1 (I.base.free b o e n hx)
    exact ⟨sl', e2⟩
  · obtain ⟨o', e1⟩ := I.base.there b o e hx
    exact free b o' (neC b o e hx) e1 (I.base.free b o e n hx)
  · obtain ⟨o', e1⟩ := I.base.there b o e hx
    exact there b o' (neC b o e hx) e1
  · obtain ⟨m1, e1⟩ := I.base.tbls b ps e
    obtain ⟨m2, e2⟩ := tbls b _ e1
    exact ⟨m1 ++ m2, by rw [e2, Array.append_assoc]⟩
  · obtain ⟨m, hn, hl⟩ := I.loc
    refine ⟨m, ns m hn, fun i x v e1 e2 e3 => ?_⟩
    obtain ⟨u, r, l⟩ := hl i x v e1 e2 e3
    refine ⟨u, r, ?_⟩
    rcases l with l | ⟨k, c, e, z⟩
    · exact .inl l
    · exact .inr ⟨k, c, e, cellK x c e _ z⟩
  · obtain ⟨v, z⟩ := I.cell x c e
    exact ⟨v, cellK x c e v z⟩
  · obtain ⟨m, ⟨o, _, _, ho, _⟩, _⟩ := I.loc
    exact free _ o (fun z => (hch _ z).2.1 rfl) ho I.free
  · obtain ⟨v, o, ho, hd⟩ := I.cell x c e
    exact free c o (fun z => (hch c z).2.2.1 x c e rfl) ho (I.freeC x c e)
  · obtain ⟨e, n, ne, nf, d⟩ := I.pin p hp
    have nch : p.1 ∉ ch := fun z => (hch p.1 z).2.2.2 p hp rfl
    exact ⟨keep p.1 p.2 ne nf nch e n, free p.1 p.2 nch e n, ne, nf, d⟩
/-- .. where the frame's own object is kept too -/
theorem Inv.un {t' : Nat} (I : Inv X pins σ H s) (u : Un X.fs [] H H' s.heap h') (hok : HOk X.prog X.w H' h') : Inv X pins σ H' { s with heap := h', toks := t' } := by
  obtain ⟨m, ⟨o, es, ep, ho, r⟩, _⟩ := id I.loc
  obtain ⟨sl, hL⟩ := u.any ho I.free (by simp)
  exact I.step (g' := s.gens) (d' := s.drawn) (ch := []) (fun _ z => nomatch z) (fun b o _ hb _ e n => u.keep b o e n hb (by simp)) (fun b o _ hb _ e n => u.slot b o e n hb (by simp)) (fun b o _ e n => u.free b o e n (by simp)) (fun b o _ e => u.there b o e (by simp)) u.tups u.frzs u.tbls (fun m' hm => by
    obtain ⟨o', es', ep', ho', r'⟩ := hm
    rw [ho] at ho'; cases ho'
    exact ⟨_, es', ep', hL, r'⟩) hok I.bare
/-- behind a call (or a comprehension's block): the slots of this frame may have changed too, the records at ch may have turned -/
theorem Inv.call {g' : Array GenState} {t' : Nat} {d' : Drawn} {ch : List Addr} (I : Inv X pins σ H s) (u : Un (frs X.stack) ch H H' s.heap h') (hok : HOk X.prog X.w H' h') (hg : AllBare g')
    (hch : ∀ b ∈ ch, (b ∈ X.ex ∨ X.s₀.heap.objs.size ≤ b) ∧ b ≠ X.env.locals ∧ (∀ x c, X.env.cells.lookup x = some c → c ≠ b) ∧ ∀ p ∈ X.pn ++ pins, p.1 ≠ b) :
    Inv X pins σ H' { s with heap := h', gens := g', drawn := d', toks := t' } := by
  obtain ⟨m, ⟨o, es, ep, ho, r⟩, _⟩ := id I.loc
  obtain ⟨sl, hL⟩ := u.any ho I.free fun z => (hch _ z).2.1 rfl
  exact I.step (ch := ch) hch (fun b o hL hb hc e n => u.keep b o e n (fun z => (List.mem_cons.mp (I.stkSub b z)).elim hL hb) hc) (fun b o _ _ hc e n => u.any e n hc) (fun b o hc e n => u.free b o e n hc) (fun b o hc e => u.there b o e hc) u.tups u.frzs u.tbls (fun m' hm => by
    obtain ⟨o', es', ep', ho', r'⟩ := hm
    rw [ho] at ho'; cases ho'
    exact ⟨_, es', ep', hL, r'⟩) hok hg
/-- an untracked record of ours (an iterator) has turned -/
theorem Inv.turned {t' : Nat} {it : Addr} (I : Inv X pins σ H s) (k : ∀ b o, b ≠ it → s.heap.get? b = some o → h'.get? b = some o) (hn : H it = none) (hL : it ≠ X.env.locals)
    (h1 : it ∈ X.ex ∨ X.s₀.heap.objs.size ≤ it) (h2 : ∀ x c, X.env.cells.lookup x = some c → c ≠ it) (h3 : ∀ p ∈ X.pn ++ pins, p.1 ≠ it) : Inv X pins σ H { s with heap := h', toks := t' } := by
  have nit : ∀ b u, H b = some u → b ≠ it := fun b u e z => by rw [z, hn] at e; cases e
  refine I.step (g' := s.gens) (d' := s.drawn) (ch := [it]) (fun b hb => ?_) (fun b o _ _ hc e _ => k b o (fun z => hc (by simp [z])) e) (fun b o _ _ hc e _ => ⟨o.slots, k b o (fun z => hc (by simp [z])) e⟩) (fun _ _ _ _ n => n)
    (fun b o hc e => ⟨o, k b o (fun z => hc (by simp [z])) e⟩) (fun _ _ e => e) (fun _ _ _ e => e) (fun b ps e => ⟨#[], by rw [e]; simp⟩) (fun m hm => ?_) (fun b u e => ?_) I.bare
  · have e : b = it := by simpa using hb
    subst e
    exact ⟨h1, hL, h2, h3⟩
  · obtain ⟨o, es, ep, ho, r⟩ := hm
    exact ⟨o, es, ep, k _ o (Ne.symm hL) ho, r⟩
  · refine (I.hok b u e).stay (fun c v hc q => k c v ?_ q) (fun _ q => q) fun _ _ q => q
    rcases hc with z | z
    · rw [z]; exact nit b u e
    · exact nit c _ z
theorem Inv.tok (I : Inv X pins σ H s) (t : Nat) : Inv X pins σ H { s with toks := t } := I.un (h' := s.heap) (t' := t) Un.refl I.hok
/-- all objects kept -/
theorem Inv.kept {t' : Nat} (I : Inv X pins σ H s) (k : ∀ b u, s.heap.get? b = some u → h'.get? b = some u) : Inv X pins σ H { s with heap := h', toks := t' } := I.un (Un.kept k) (I.hok.kept k)
/-- a new object laid and tracked -/
theorem Inv.laid {a : Addr} {o : HO} {t' : Nat} (I : Inv X pins σ H s) (k : ∀ b u, s.heap.get? b = some u → h'.get? b = some u) (hp : s.heap.objs.size ≤ a) (new : ObjOk X.prog X.w (upd H a o) h' a o) :
    Inv X pins σ (upd H a o) { s with heap := h', toks := t' } := I.un (Un.laid k hp (I.hok.fresh hp)) (I.hok.laid k hp new)
/-- an object written -/
theorem Inv.write {x e : Addr} {o : HO} {t' : Nat} (I : Inv X pins σ H s) (mu : Mut (H x)) (he : e = x ∨ H e = some (.own x)) (k : ∀ b u, b ≠ e → s.heap.get? b = some u → h'.get? b = some u) (heo : ∃ u, h'.get? e = some u)
    (new : ObjOk X.prog X.w (upd H x o) h' x o) : Inv X pins σ (upd H x o) { s with heap := h', toks := t' } := I.un (Un.write mu he k heo) (I.hok.write mu he k heo new)
/-- forgetting slots, pins -/
theorem Inv.weak {σ' : List (Option V)} (I : Inv X pins σ H s) (hl : σ'.length = σ.length) (w : ∀ (i : Nat) v, σ'[i]? = some (some v) → σ[i]? = some (some v)) : Inv X pins σ' H s :=
  ⟨I.ok, I.os, I.bare, I.base, let ⟨m, hn, hl'⟩ := I.loc; ⟨m, hn, fun i x v e1 e2 e3 => hl' i x v e1 (w i v e2) e3⟩, I.cell, I.free, I.freeC, I.pin, I.hok, hl.trans I.len⟩
theorem Inv.pins_of {pins' : List (Addr × Obj)} (I : Inv X pins σ H s) (h : ∀ p ∈ pins', s.heap.get? p.1 = some p.2 ∧ H p.1 = none ∧ p.1 ≠ X.env.locals ∧ p.1 ∉ X.fs ∧ ∀ v, p.2.data ≠ .cell v) : Inv X pins' σ H s :=
  ⟨I.ok, I.os, I.bare, I.base, I.loc, I.cell, I.free, I.freeC, fun p hp => (List.mem_append.mp hp).elim (fun z => I.pin p (List.mem_append_left _ z)) (h p), I.hok, I.len⟩

theorem nodup_ix {N : List Str} (hN : N.Nodup) {i j : Nat} {x : Str} (a : N[i]? = some x) (b : N[j]? = some x) : i = j := by
  obtain ⟨h1, e1⟩ := List.getElem?_eq_some_iff.mp a
  obtain ⟨h2, e2⟩ := List.getElem?_eq_some_iff.mp b
  exact (List.getElem_inj hN).mp (e1.trans e2.symm)

/-- a name is stored; what changed -/
theorem store_ok2 {M : Model} {A : Around} {E : Value → Shared → Prop} {i : Nat} {x : Str} {v : V} {u : Value} {Q : Unit → Shared → Prop} (I : Inv X pins σ H s) (hN : X.N.Nodup) (hi : X.N[i]? = some x) (hx : Loc X.env.scope x) (r : RelV v u)
    (h : ∀ s', Inv X pins (σ.set i (some v)) H s' → (∃ a, Heap.SameBut a s.heap s'.heap ∧ (a = X.env.locals ∨ X.env.cells.lookup x = some a)) → Q () s') (hf : X.fn x = true ∨ X.env.scope.names.lookup x = some .local := by first | exact .inl rfl | exact .inr rfl | assumption) : wpAny M A (storeName X.env x u) Q E s := by
  obtain ⟨m, hn, hl⟩ := id I.loc
  have hcls : (X.env.scope.kind == .class || (X.env.scope.kind == .module && X.env.locals != X.env.globals)) = false := by rw [I.ok.kind]; rfl
  have hiσ : i < σ.length := by rw [I.len]; exact (List.getElem?_eq_some_iff.mp hi).1
  have cne := I.cne
  have tracked : ∀ {a : Addr} {h' : Heap}, (∃ o, s.heap.get? a = some o ∧ H a = none) → Heap.SameBut a s.heap h' → HOk X.prog X.w H h' := fun {a h'} ha hs b ob e => by
    obtain ⟨_, _, hfree⟩ := ha
    refine (I.hok b ob e).stay (fun c w' hc q => (hs.2 c ?_).trans q) (fun _ q => q) fun _ _ q => q
    rintro rfl
    rcases hc with rfl | hc
    · rw [hfree] at e; cases e
    · rw [hfree] at hc; cases hc
  rcases hx with hk | hk
  · refine wpAny_storeName_local hk hn (fun h' hn' hs => ?_) hcls
    obtain ⟨oL, _, _, hoL, _⟩ := id hn
    refine h _ ⟨I.ok, I.os, I.bare, ⟨fun b o e n hb hx => ?_, fun b o e n hb hx => ?_, I.base.free, fun b o e hx => ?_, I.base.tups, I.base.frzs, I.base.tbls⟩, ⟨_, hn', fun j y v' e1 e2 e3 => ?_⟩, fun y c e => ?_, I.free, I.freeC, fun p hp => ?_, tracked ⟨oL, hoL, I.free⟩ hs, by simpa using I.len⟩ ⟨_, hs, .inl rfl⟩
    · exact (hs.2 b (Nat.ne_of_lt (Nat.lt_of_lt_of_le (Heap.lt_size e) I.ok.above))).trans (I.base.keep b o e n hb hx)
    · obtain ⟨sl, e1⟩ := I.base.slot b o e n hb hx
      exact ⟨sl, (hs.2 b (Nat.ne_of_lt (Nat.lt_of_lt_of_le (Heap.lt_size e) I.ok.above))).trans e1⟩
    · obtain ⟨o', e1⟩ := I.base.there b o e hx
      exact ⟨o', (hs.2 b (Nat.ne_of_lt (Nat.lt_of_lt_of_le (Heap.lt_size e) I.ok.above))).trans e1⟩
    · by_cases hj : j = i
      · subst hj
        rw [hi] at e1; cases e1
        rw [List.getElem?_set_self hiσ] at e2
        cases e2
        exact ⟨u, r, .inl ⟨hk, by simp⟩⟩
      · rw [List.getElem?_set_ne (Ne.symm hj)] at e2
        obtain ⟨u', r', q⟩ := hl j y v' e1 e2 e3
        refine ⟨u', r', ?_⟩
        rcases q with ⟨k, e⟩ | ⟨k, c, e, z⟩
        · refine .inl ⟨k, ?_⟩
          have : y ≠ x := fun e => hj (nodup_ix hN e1 (e ▸ hi))
          simp [this, e]
        · exact .inr ⟨k, c, e, z.sameBut hs (cne y c e)⟩
    · obtain ⟨w', z⟩ := I.cell y c e
      exact ⟨w', z.sameBut hs (cne y c e)⟩
    · obtain ⟨e, n, ne, nf, d⟩ := I.pin p hp
      exact ⟨(hs.2 p.1 ne).trans e, n, ne, nf, d⟩
  · have hfn : X.fn x = true := by
      rcases hf with z | z
      · exact z
      · rw [z] at hk; cases hk
    obtain ⟨c, hc⟩ := I.ok.has x (.inl hk)
    obtain ⟨w', z⟩ := I.cell x c hc
    refine wpAny_storeName_cell I.ok.kind hk hc z (fun h' hc' hs => ?_)
    obtain ⟨oc, hoc, hocd⟩ := id z
    refine h { s with heap := h' } ⟨I.ok, I.os, I.bare, ⟨fun b o e n hb hx => ?_, fun b o e n hb hx => ?_, I.base.free, fun b o e hx => ?_, I.base.tups, I.base.frzs, I.base.tbls⟩, ⟨m, hn.sameBut hs (Ne.symm (cne x c hc)), fun j y v' e1 e2 e3 => ?_⟩, fun y c' e => ?_, I.free, I.freeC, fun p hp => ?_, tracked ⟨oc, hoc, I.freeC x c hc⟩ hs, by simpa using I.len⟩ ⟨c, hs, .inr hc⟩
    · exact (hs.2 b (Nat.ne_of_lt (Nat.lt_of_lt_of_le (Heap.lt_size e) (I.ok.cab x c hfn hc)))).trans (I.base.keep b o e n hb hx)
    · obtain ⟨sl, e1⟩ := I.base.slot b o e n hb hx
      exact ⟨sl, (hs.2 b (Nat.ne_of_lt (Nat.lt_of_lt_of_le (Heap.lt_size e) (I.ok.cab x c hfn hc)))).trans e1⟩
    · obtain ⟨o', e1⟩ := I.base.there b o e hx
      exact ⟨o', (hs.2 b (Nat.ne_of_lt (Nat.lt_of_lt_of_le (Heap.lt_size e) (I.ok.cab x c hfn hc)))).trans e1⟩
    · by_cases hj : j = i
      · subst hj
        rw [hi] at e1; cases e1
        rw [List.getElem?_set_self hiσ] at e2
        cases e2
        exact ⟨u, r, .inr ⟨.inl hk, c, hc, hc'⟩⟩
      · rw [List.getElem?_set_ne (Ne.symm hj)] at e2
        obtain ⟨u', r', q⟩ := hl j y v' e1 e2 e3
        refine ⟨u', r', ?_⟩
        rcases q with q | ⟨k, c', e, z'⟩
        · exact .inl q
        · refine .inr ⟨k, c', e, z'.sameBut hs ?_⟩
          rintro rfl
          exact hj (nodup_ix hN e1 (I.ok.inj _ _ _ e hc ▸ hi))
    · by_cases hcc : c' = c
      · subst hcc; exact ⟨_, hc'⟩
      · obtain ⟨w2, z2⟩ := I.cell y c' e
        exact ⟨w2, z2.sameBut hs hcc⟩
    · obtain ⟨e, n, ne, nf, d⟩ := I.pin p hp
      refine ⟨(hs.2 p.1 ?_).trans e, n, ne, nf, d⟩
      intro q
      rw [q, hoc] at e
      have q' : oc = p.2 := Option.some.inj e
      exact d w' (by rw [← q']; exact hocd)
theorem store_ok {M : Model} {A : Around} {E : Value → Shared → Prop} {i : Nat} {x : Str} {v : V} {u : Value} {Q : Unit → Shared → Prop} (I : Inv X pins σ H s) (hN : X.N.Nodup) (hi : X.N[i]? = some x) (hx : Loc X.env.scope x) (r : RelV v u)
    (h : ∀ s', Inv X pins (σ.set i (some v)) H s' → Q () s') (hf : X.fn x = true ∨ X.env.scope.names.lookup x = some .local := by first | exact .inl rfl | exact .inr rfl | assumption) : wpAny M A (storeName X.env x u) Q E s :=
  store_ok2 I hN hi hx r (fun s' I' _ => h s' I') hf
/-- behind a call or a block, the state as it is -/
theorem Inv.call' {s' : Shared} {ch : List Addr} (I : Inv X pins σ H s) (ho : s'.os = s.os) (u : Un (frs X.stack) ch H H' s.heap s'.heap) (hok : HOk X.prog X.w H' s'.heap) (hg : AllBare s'.gens)
    (hch : ∀ b ∈ ch, (b ∈ X.ex ∨ X.s₀.heap.objs.size ≤ b) ∧ b ≠ X.env.locals ∧ (∀ x c, X.env.cells.lookup x = some c → c ≠ b) ∧ ∀ p ∈ X.pn ++ pins, p.1 ≠ b) : Inv X pins σ H' s' := by
  obtain ⟨h', g', d', t', o'⟩ := s'
  have e : o' = s.os := ho
  subst e
  exact I.call (g' := g') (t' := t') (d' := d') u hok hg hch
end

/-! ### the judgements -/
/-- an exception: its class, its own dict's address (where it has one), the abstract heap behind it -/
abbrev XK := Value → Option Addr → Hp → Prop
abbrev St := List (Option V)
abbrev VK := V → Hp → Prop
/-- an expression's reading; a test's; an argument list's -/
abbrev TE := St → Hp → VK → Prop
abbrev TT := St → Hp → (Bool → Hp → Prop) → Prop
abbrev TA := St → Hp → (List V → Hp → Prop) → Prop
/-- what is wanted behind a statement -/
structure Ends where
  nx : St → Hp → Prop
  rt : VK
  bk : St → Hp → Prop := fun _ _ => False
  ct : St → Hp → Prop := fun _ _ => False
abbrev TS := Ends → St → Hp → Prop

def EP (X : Cx) (pins : List (Addr × Obj)) (σ : St) (Q : VK) (u : Value) (s' : Shared) : Prop := ∃ v H', Inv X pins σ H' s' ∧ RelV v u ∧ Q v H'
def TP (X : Cx) (pins : List (Addr × Obj)) (σ : St) (Q : Bool → Hp → Prop) (b : Bool) (s' : Shared) : Prop := ∃ H', Inv X pins σ H' s' ∧ Q b H'
def AP (X : Cx) (pins : List (Addr × Obj)) (σ : St) (Q : List V → Hp → Prop) (us : List Value) (s' : Shared) : Prop := ∃ vs H', Inv X pins σ H' s' ∧ Vals vs us ∧ Q vs H'
def SP (X : Cx) (pins : List (Addr × Obj)) (D : Ends) (f : Flow) (s' : Shared) : Prop :=
  match f with
  | .next => ∃ σ' H', Inv X pins σ' H' s' ∧ D.nx σ' H'
  | .brk => ∃ σ' H', Inv X pins σ' H' s' ∧ D.bk σ' H'
  | .cont => ∃ σ' H', Inv X pins σ' H' s' ∧ D.ct σ' H'
  | .ret u => ∃ v σ' H', Inv X pins σ' H' s' ∧ RelV v u ∧ D.rt v H'

def PE (X : Cx) (e : Expr) (t : TE) : Prop :=
  ∀ (pins : List (Addr × Obj)) (s : Shared) (σ : St) (H : Hp) (Q : VK), Inv X pins σ H s → t σ H Q → wpAny (model X.prog X.w) X.A (eval e X.env) (EP X pins σ Q) X.xe s
def PT (X : Cx) (e : Expr) (t : TT) : Prop :=
  ∀ (pins : List (Addr × Obj)) (s : Shared) (σ : St) (H : Hp) (Q : Bool → Hp → Prop), Inv X pins σ H s → t σ H Q → wpAny (model X.prog X.w) X.A (isTrue e X.env (eval e X.env)) (TP X pins σ Q) X.xe s
/-- a test whatever its 'whole' is (and, or) -/
def PW (X : Cx) (e : Expr) (t : TT) : Prop :=
  ∀ (whole : Sem Value) (pins : List (Addr × Obj)) (s : Shared) (σ : St) (H : Hp) (Q : Bool → Hp → Prop), Inv X pins σ H s → t σ H Q → wpAny (model X.prog X.w) X.A (isTrue e X.env whole) (TP X pins σ Q) X.xe s
theorem PW.pt {X : Cx} {e : Expr} {t : TT} (h : PW X e t) : PT X e t := h _
/-- an argument list (no star), from the left -/
def PA (X : Cx) (es : List Expr) (t : TA) : Prop :=
  ∀ (pos : Pos) (pins : List (Addr × Obj)) (s : Shared) (σ : St) (H : Hp) (Q : List V → Hp → Prop), Inv X pins σ H s → t σ H Q → wpAny (model X.prog X.w) X.A (spliced (backTo pos (starEach es X.env))) (AP X pins σ Q) X.xe s
def PS (X : Cx) (st : Stmt) (t : TS) : Prop :=
  ∀ (pins : List (Addr × Obj)) (s : Shared) (σ : St) (H : Hp) (D : Ends), Inv X pins σ H s → t D σ H → wpAny (model X.prog X.w) X.A (exec st X.env) (SP X pins D) X.xe s
def PSs (X : Cx) (st : List Stmt) (t : TS) : Prop :=
  ∀ (pins : List (Addr × Obj)) (s : Shared) (σ : St) (H : Hp) (D : Ends), Inv X pins σ H s → t D σ H → wpAny (model X.prog X.w) X.A (execs st X.env) (SP X pins D) X.xe s
/-- weaken the end -/
theorem thn {α : Type} {t : Sem α} {Q Q' : α → Shared → Prop} {M : Model} {A : Around} {E : Value → Shared → Prop} {s : Shared} (h : wpAny M A t Q E s) (hQ : ∀ a s, Q a s → Q' a s) : wpAny M A t Q' E s := wpAny_mono h hQ fun _ _ x => x
end L2

namespace L2
open PySem PySem.Spec PyProof.Rows
section
variable {X : Cx}

/-- two expressions in a row -/
theorem bin {a b : Expr} {ta tb : TE} (ha : PE X a ta) (hb : PE X b tb) {pins : List (Addr × Obj)} {s : Shared} {σ : St} {H : Hp} {R : V → V → Hp → Prop} (I : Inv X pins σ H s) (h : ta σ H fun x H1 => tb σ H1 fun y H2 => R x y H2)
    {α : Type} {Q : α → Shared → Prop} {f : Value → Value → Sem α}
    (hf : ∀ v u s2 x y H2, Inv X pins σ H2 s2 → RelV x v → RelV y u → R x y H2 → wpAny (model X.prog X.w) X.A (f v u) Q X.xe s2) :
    wpAny (model X.prog X.w) X.A (eval a X.env) (fun v s₁ => wpAny (model X.prog X.w) X.A (eval b X.env) (fun u s₂ => wpAny (model X.prog X.w) X.A (f v u) Q X.xe s₂) X.xe s₁) X.xe s := by
  refine thn (ha pins s σ H _ I h) fun v s1 ⟨x, H1, I1, r1, q1⟩ => ?_
  refine thn (hb pins s1 σ H1 _ I1 q1) fun u s2 ⟨y, H2, I2, r2, q2⟩ => ?_
  exact hf v u s2 x y H2 I2 r1 r2 q2

/-! ### names and constants -/
inductive I_tVar (i : Nat) (σ : St) (H : Hp) (Q : VK) : Prop where
  | mk (v : V) (h0_ : σ[i]? = some (some v)) (h1_ : Q v H) : I_tVar i σ H Q
def tVar (i : Nat) : TE := fun σ H Q => I_tVar i σ H Q
def tC (v : V) : TE := fun _ H Q => Q v H
theorem pe_var {i : Nat} {x : Str} {pos : Pos} (hN : X.N[i]? = some x) (hv : Vis X.env.scope x) (hd : (x == ("__debug__" : Str)) = false := by decide) (hcd : (x == ("__classdict__" : Str)) = false := by decide) : PE X (.Name x pos) (tVar i) := by
  intro pins s σ H Q I h
  obtain ⟨v, e, h⟩ := h
  obtain ⟨m, hn, hl⟩ := I.loc
  obtain ⟨u, r, l⟩ := hl i x v hN e hv
  have fin : EP X pins σ Q u s := ⟨v, H, I, r, h⟩
  rcases l with ⟨hk, hm⟩ | ⟨hk, c, hc, hcell⟩
  · exact wpAny_Name (wpAny_loadName_local I.ok.kind hk hn hm fin) hd
  · rcases hk with hk | hk
    · exact wpAny_Name (wpAny_loadName_cell I.ok.kind hk hc hcell fin) hd
    · exact wpAny_Name (wpAny_loadName_free I.ok.kind hk hc hcell fin hcd) hd
theorem pe_int {i j pos} : PE X (.Constant (.int i) j pos) (tC (.int i)) := fun _ _ _ H _ I h => wpAny_Constant_int ⟨.int i, H, I.tok _, ⟨_, rfl⟩, h⟩
theorem pe_bl {b j pos} : PE X (.Constant (.bool b) j pos) (tC (.bl b)) := fun _ _ _ H _ I h => Constant_bool ⟨.bl b, H, I, rfl, h⟩
theorem pe_non {j pos} : PE X (.Constant .none j pos) (tC .non) := fun _ _ _ H _ I h => Constant_none ⟨.non, H, I, rfl, h⟩
theorem pe_str {x j pos} : PE X (.Constant (.str x) j pos) (tC (.str x)) := fun _ _ _ H _ I h => Calls.Constant_str ⟨.str x, H, I.tok _, ⟨_, rfl⟩, h⟩

/-- a global name of the def -/
def Gl (X : Cx) (x : Str) : Prop := X.env.kindOf x = some .globalImplicit
theorem ld_glob {E : Value → Shared → Prop} {pins : List (Addr × Obj)} {s : Shared} {σ : St} {H : Hp} {x : Str} {u : Value} {pos : Pos} {Q : Value → Shared → Prop} (I : Inv X pins σ H s) (hg : Gl X x) (hm : X.mg x = some u) (h : Q u s)
    (hd : (x == ("__debug__" : Str)) = false := by decide) : wpAny (model X.prog X.w) X.A (eval (.Name x pos) X.env) Q E s :=
  Calls.Name_function_global I.ok.kind hg (Calls.loadGlobal_global (by rw [I.ok.glob]; exact I.mod.glob.keeps I.bk) hm h) hd
theorem ld_blt {E : Value → Shared → Prop} {pins : List (Addr × Obj)} {s : Shared} {σ : St} {H : Hp} {x : Str} {u : Value} {pos : Pos} {Q : Value → Shared → Prop} (I : Inv X pins σ H s) (hg : Gl X x) (hm : X.mg x = none) (hv : bootBuiltins x = some u) (h : Q u s)
    (hn : x ≠ "__name__" := by decide) (hd : (x == ("__debug__" : Str)) = false := by decide) : wpAny (model X.prog X.w) X.A (eval (.Name x pos) X.env) Q E s := by
  obtain ⟨mb, h1, h2⟩ := I.mod.blt
  exact Calls.Name_function_global I.ok.kind hg (Calls.loadGlobal_builtin (by rw [I.ok.glob]; exact I.mod.glob.keeps I.bk) hm (by rw [I.ok.blt]; exact h1.keeps I.bk) ((h2 x hn).trans hv) h) hd
/-- a module's constant, a class, a function, as a value -/
theorem pe_glob {x : Str} {v : V} {u : Value} {pos : Pos} (hg : Gl X x) (hm : X.mg x = some u) (r : RelV v u) (hd : (x == ("__debug__" : Str)) = false := by decide) : PE X (.Name x pos) (tC v) :=
  fun _ _ _ H _ I h => ld_glob I hg hm ⟨v, H, I, r, h⟩ hd
theorem pe_bltn {x : Str} {v : V} {u : Value} {pos : Pos} (hg : Gl X x) (hm : X.mg x = none) (hv : bootBuiltins x = some u) (r : RelV v u) (hn : x ≠ "__name__" := by decide) (hd : (x == ("__debug__" : Str)) = false := by decide) : PE X (.Name x pos) (tC v) :=
  fun _ _ _ H _ I h => ld_blt I hg hm hv ⟨v, H, I, r, h⟩ hn hd

/-! ### arithmetic -/
/-- two ints -/
def t2I (ta tb : TE) (k : Int → Int → Hp → Prop) : St → Hp → Prop := fun σ H => ta σ H fun x H1 => tb σ H1 fun y H2 => ∃ i j, x = .int i ∧ y = .int j ∧ k i j H2
def tAdd (ta tb : TE) : TE := fun σ H Q => t2I ta tb (fun i j H2 => Q (.int (i + j)) H2) σ H
def tSub (ta tb : TE) : TE := fun σ H Q => t2I ta tb (fun i j H2 => Q (.int (i - j)) H2) σ H
/-- the left factor below 2^64 -/
def tMul (ta tb : TE) : TE := fun σ H Q => t2I ta tb (fun i j H2 => (-(2 ^ 64) < i ∧ i < 2 ^ 64) ∧ Q (.int (i * j)) H2) σ H
variable {a b : Expr} {ta tb : TE} {pos : Pos}
theorem pe_add (ha : PE X a ta) (hb : PE X b tb) : PE X (.BinOp a .Add b pos) (tAdd ta tb) := by
  intro pins s σ H Q I h
  refine wpAny_BinOp (bin ha hb I h fun v u s2 x y H2 I2 rx ry q => ?_)
  obtain ⟨i, j, rfl, rfl, q⟩ := q
  obtain ⟨t, rfl⟩ := rx
  obtain ⟨t', rfl⟩ := ry
  exact add_int ⟨.int _, H2, I2.tok _, ⟨_, rfl⟩, q⟩
theorem pe_sub (ha : PE X a ta) (hb : PE X b tb) : PE X (.BinOp a .Sub b pos) (tSub ta tb) := by
  intro pins s σ H Q I h
  refine wpAny_BinOp (bin ha hb I h fun v u s2 x y H2 I2 rx ry q => ?_)
  obtain ⟨i, j, rfl, rfl, q⟩ := q
  obtain ⟨t, rfl⟩ := rx
  obtain ⟨t', rfl⟩ := ry
  exact sub_int ⟨.int _, H2, I2.tok _, ⟨_, rfl⟩, q⟩
theorem pe_mul (ha : PE X a ta) (hb : PE X b tb) : PE X (.BinOp a .Mult b pos) (tMul ta tb) := by
  intro pins s σ H Q I h
  refine wpAny_BinOp (bin ha hb I h fun v u s2 x y H2 I2 rx ry q => ?_)
  obtain ⟨i, j, rfl, rfl, ⟨q1, q2⟩, q⟩ := q
  obtain ⟨t, rfl⟩ := rx
  obtain ⟨t', rfl⟩ := ry
  exact mul_int ⟨.int _, H2, I2.tok _, ⟨_, rfl⟩, q⟩ (.of_left (intBits_le_64 q1 q2))

/-! ### comparisons -/
def PC (X : Cx) (op : CmpOp) (a b : Expr) (t : TE) : Prop :=
  ∀ (pins : List (Addr × Obj)) (s : Shared) (σ : St) (H : Hp) (Q : VK), Inv X pins σ H s → t σ H Q →
    wpAny (model X.prog X.w) X.A (eval a X.env) (fun v s₁ => wpAny (model X.prog X.w) X.A (eval b X.env) (fun u s₂ => wpAny (model X.prog X.w) X.A (compareOp op v u) (EP X pins σ Q) X.xe s₂) X.xe s₁) X.xe s
theorem nobehind (b : Expr) {op : CmpOp} (h : op ≠ .In) (h2 : op ≠ .NotIn) : behindInMarks op b = false := by
  have e1 : (op == CmpOp.In) = false := by cases op <;> first | rfl | exact absurd rfl h
  have e2 : (op == CmpOp.NotIn) = false := by cases op <;> first | rfl | exact absurd rfl h2
  cases b <;> simp [behindInMarks, e1, e2]
def tCmp (p : Int → Int → Bool) (ta tb : TE) : TE := fun σ H Q => t2I ta tb (fun i j H2 => Q (.bl (p i j)) H2) σ H
abbrev tLt : TE → TE → TE := tCmp fun i j => decide (i < j)
abbrev tLe : TE → TE → TE := tCmp fun i j => decide (i ≤ j)
abbrev tGt : TE → TE → TE := tCmp fun i j => decide (j < i)
abbrev tGe : TE → TE → TE := tCmp fun i j => decide (j ≤ i)
abbrev tEqI : TE → TE → TE := tCmp fun i j => decide (i = j)
abbrev tNeI : TE → TE → TE := tCmp fun i j => !decide (i = j)
/-- a comparison of two ints, by its rule -/
theorem pc_int {op : CmpOp} {p : Int → Int → Bool} (ha : PE X a ta) (hb : PE X b tb)
    (rule : ∀ (i j : Int) (t u : Tok) (Q : Value → Shared → Prop) (s : Shared), Q (.bool (p i j)) s → wpAny (model X.prog X.w) X.A (compareOp op (.int i t) (.int j u)) Q X.xe s) : PC X op a b (tCmp p ta tb) := by
  intro pins s σ H Q I h
  refine bin ha hb I h fun v u s2 x y H2 I2 rx ry q => ?_
  obtain ⟨i, j, rfl, rfl, q⟩ := q
  obtain ⟨t, rfl⟩ := rx
  obtain ⟨t', rfl⟩ := ry
  exact rule i j t t' _ s2 ⟨.bl _, H2, I2, rfl, q⟩
theorem pc_lt (ha : PE X a ta) (hb : PE X b tb) : PC X .Lt a b (tLt ta tb) := pc_int ha hb fun _ _ _ _ _ _ h => lt_int h
theorem pc_le (ha : PE X a ta) (hb : PE X b tb) : PC X .LtE a b (tLe ta tb) := pc_int ha hb fun _ _ _ _ _ _ h => le_int h
theorem pc_gt (ha : PE X a ta) (hb : PE X b tb) : PC X .Gt a b (tGt ta tb) := pc_int ha hb fun _ _ _ _ _ _ h => gt_int h
theorem pc_ge (ha : PE X a ta) (hb : PE X b tb) : PC X .GtE a b (tGe ta tb) := pc_int ha hb fun _ _ _ _ _ _ h => ge_int h
theorem pc_eqI (ha : PE X a ta) (hb : PE X b tb) : PC X .Eq a b (tEqI ta tb) := pc_int ha hb fun _ _ _ _ _ _ h => eq_int (by rw [Bool.beq_eq_decide_eq]; exact h)
theorem pc_neI (ha : PE X a ta) (hb : PE X b tb) : PC X .NotEq a b (tNeI ta tb) := pc_int ha hb fun _ _ _ _ _ _ h => ne_int (by rw [bne, Bool.beq_eq_decide_eq]; exact h)
/-- is None -/
def tIsN (ta : TE) : TE := fun σ H Q => ta σ H fun x H1 => Q (.bl (decide (x = .non))) H1
def tNotN (ta : TE) : TE := fun σ H Q => ta σ H fun x H1 => Q (.bl (!decide (x = .non))) H1
theorem RelV.none_iff {x : V} {v : Value} (r : RelV x v) : (v == Value.none) = decide (x = .non) := by
  cases x with
  | non => cases r; rfl
  | bl _ => cases r; rfl
  | int _ => obtain ⟨t, rfl⟩ := r; rfl
  | str _ => obtain ⟨t, rfl⟩ := r; rfl
  | byt _ => obtain ⟨t, rfl⟩ := r; rfl
  | flt _ => obtain ⟨t, rfl⟩ := r; rfl
  | ref _ => cases r; rfl
  | ty _ => cases r; rfl
theorem pc_isN {j pos'} (ha : PE X a ta) : PC X .Is a (.Constant .none j pos') (tIsN ta) := by
  intro pins s σ H Q I h
  refine thn (ha pins s σ H _ I h) fun v s1 ⟨x, H1, I1, r1, q1⟩ => ?_
  exact Constant_none (is_none_gen ⟨.bl _, H1, I1, by rw [r1.none_iff]; rfl, q1⟩)
theorem pc_notN {j pos'} (ha : PE X a ta) : PC X .IsNot a (.Constant .none j pos') (tNotN ta) := by
  intro pins s σ H Q I h
  refine thn (ha pins s σ H _ I h) fun v s1 ⟨x, H1, I1, r1, q1⟩ => ?_
  exact Constant_none (isnot_none_gen ⟨.bl _, H1, I1, by rw [r1.none_iff]; rfl, q1⟩)
/-- a comparison as a value, as a test -/
inductive I_tB (x : V) (H1 : Hp) (Q : Bool → Hp → Prop) : Prop where
  | mk (c : Bool) (h0_ : x = .bl c) (h1_ : Q c H1) : I_tB x H1 Q
def tB (t : TE) : TT := fun σ H Q => t σ H fun x H1 => I_tB x H1 Q
theorem pe_cmp {op : CmpOp} {t : TE} (h : PC X op a b t) (h1 : behindInMarks op b = false := by first | exact nobehind _ (by decide) (by decide) | rfl) : PE X (.Compare a [op] [b] pos) t := fun pins s σ H Q I hw => wpAny_Compare1 (h pins s σ H Q I hw) h1
theorem pt_cmp {op : CmpOp} {t : TE} (h : PC X op a b t) (h1 : behindInMarks op b = false := by first | exact nobehind _ (by decide) (by decide) | rfl) : PT X (.Compare a [op] [b] pos) (tB t) := by
  intro pins s σ H Q I hw
  refine wpAny_isTrue_Compare1 (thn (h pins s σ H _ I hw) fun v s1 h1 => thn h1 fun u s2 h2 => thn h2 fun c s3 ⟨x, H1, I1, r1, q1⟩ => ?_) h1
  obtain ⟨d, rfl, q⟩ := q1
  cases r1
  exact wpAny_truthy_bool ⟨H1, I1, q⟩
/-- an expression whose value is a bool, as a test -/
theorem pt_val {e : Expr} {t : TE} (h : PE X e t) (he : ∀ whole, isTrue e X.env whole = (do let v ← whole; standAt e.pos; holding [v] (truthy v)) := by intro _; rfl) : PT X e (tB t) := by
  intro pins s σ H Q I hw
  refine isTrue_plain (thn (h pins s σ H _ I hw) fun v s1 ⟨x, H1, I1, r1, q1⟩ => ?_) (he _)
  obtain ⟨d, rfl, q⟩ := q1
  cases r1
  exact wpAny_truthy_bool ⟨H1, I1, q⟩

/-! ### and, or, not -/
variable {tA tB' : TT} {rest : List Expr}
def tAnd (t u : TT) : TT := fun σ H Q => t σ H fun c H1 => if c = true then u σ H1 Q else Q false H1
def tOr (t u : TT) : TT := fun σ H Q => t σ H fun c H1 => if c = true then Q true H1 else u σ H1 Q
def tNot (t : TT) : TT := fun σ H Q => t σ H fun c H1 => Q (!c) H1
theorem pw_and1 (ha : PT X a tA) : PW X (.BoolOp .And [a] pos) tA := by
  intro wh pins s σ H Q I h
  refine isTrue_and (thn (ha pins s σ H Q I h) fun c s1 e => ?_)
  cases c with
  | true => exact isTrue_and_nil e
  | false => exact e
theorem pw_or1 (ha : PT X a tA) : PW X (.BoolOp .Or [a] pos) tA := by
  intro wh pins s σ H Q I h
  refine isTrue_or (thn (ha pins s σ H Q I h) fun c s1 e => ?_)
  cases c with
  | false => exact isTrue_or_nil e
  | true => exact e
theorem pw_and (ha : PT X a tA) (hb : PW X (.BoolOp .And (b :: rest) pos) tB') : PW X (.BoolOp .And (a :: b :: rest) pos) (tAnd tA tB') := by
  intro wh pins s σ H Q I h
  refine isTrue_and (thn (ha pins s σ H _ I h) fun c s1 ⟨H1, I1, q1⟩ => ?_)
  cases c with
  | true => exact hb wh pins s1 σ H1 Q I1 q1
  | false => exact ⟨H1, I1, q1⟩
theorem pw_or (ha : PT X a tA) (hb : PW X (.BoolOp .Or (b :: rest) pos) tB') : PW X (.BoolOp .Or (a :: b :: rest) pos) (tOr tA tB') := by
  intro wh pins s σ H Q I h
  refine isTrue_or (thn (ha pins s σ H _ I h) fun c s1 ⟨H1, I1, q1⟩ => ?_)
  cases c with
  | true => exact ⟨H1, I1, q1⟩
  | false => exact hb wh pins s1 σ H1 Q I1 q1
theorem pt_not (ha : PT X a tA) : PT X (.UnaryOp .Not a pos) (tNot tA) := by
  intro pins s σ H Q I h
  exact isTrue_not (ha pins s σ H (fun c H1 => Q (!c) H1) I h)
/-- .. as values (bools) -/
def tAndV (ta tb : TE) : TE := fun σ H Q => ta σ H fun x H1 => ∃ c, x = .bl c ∧ if c = true then tb σ H1 Q else Q (.bl false) H1
def tOrV (ta tb : TE) : TE := fun σ H Q => ta σ H fun x H1 => ∃ c, x = .bl c ∧ if c = true then Q (.bl true) H1 else tb σ H1 Q
def tNotV (ta : TE) : TE := fun σ H Q => ta σ H fun x H1 => ∃ c, x = .bl c ∧ Q (.bl (!c)) H1
theorem pe_one {op} {t : TE} (h : PE X a t) : PE X (.BoolOp op [a] pos) t := fun pins s σ H Q I hw => BoolOp_one (h pins s σ H Q I hw)
theorem pe_and (ha : PE X a ta) (hb : PE X (.BoolOp .And (b :: rest) pos) tb) : PE X (.BoolOp .And (a :: b :: rest) pos) (tAndV ta tb) := by
  intro pins s σ H Q I h
  refine BoolOp_and (thn (ha pins s σ H _ I h) fun v s1 ⟨x, H1, I1, r1, q1⟩ => ?_)
  obtain ⟨c, rfl, q1⟩ := q1
  cases r1
  refine wpAny_truthy_bool ?_
  cases c with
  | true => exact hb pins s1 σ H1 Q I1 q1
  | false => exact ⟨.bl false, H1, I1, rfl, q1⟩
theorem pe_or (ha : PE X a ta) (hb : PE X (.BoolOp .Or (b :: rest) pos) tb) : PE X (.BoolOp .Or (a :: b :: rest) pos) (tOrV ta tb) := by
  intro pins s σ H Q I h
  refine BoolOp_or (thn (ha pins s σ H _ I h) fun v s1 ⟨x, H1, I1, r1, q1⟩ => ?_)
  obtain ⟨c, rfl, q1⟩ := q1
  cases r1
  refine wpAny_truthy_bool ?_
  cases c with
  | false => exact hb pins s1 σ H1 Q I1 q1
  | true => exact ⟨.bl true, H1, I1, rfl, q1⟩
theorem pe_not (ha : PE X a ta) : PE X (.UnaryOp .Not a pos) (tNotV ta) := by
  intro pins s σ H Q I h
  refine UnaryOp_ (thn (ha pins s σ H _ I h) fun v s1 ⟨x, H1, I1, r1, q1⟩ => ?_)
  obtain ⟨c, rfl, q1⟩ := q1
  cases r1
  exact not_of (wpAny_truthy_bool ⟨.bl (!c), H1, I1, rfl, q1⟩)
/-- a if t else b -/
def tIf (t : TT) (ta tb : TE) : TE := fun σ H Q => t σ H fun c H1 => if c = true then ta σ H1 Q else tb σ H1 Q
theorem pe_ifExp {c : Expr} (hc : PT X c tA) (ha : PE X a ta) (hb : PE X b tb) : PE X (.IfExp c a b pos) (tIf tA ta tb) := by
  intro pins s σ H Q I h
  refine wpAny_IfExp (thn (hc pins s σ H _ I h) fun d s1 ⟨H1, I1, q1⟩ => ?_)
  cases d with
  | true => exact ha pins s1 σ H1 Q I1 q1
  | false => exact hb pins s1 σ H1 Q I1 q1
end
end L2

namespace L2
open PySem PySem.Spec PyProof.Rows

/-! ### a list, a tuple that is read: tracked, frozen, or an object of the module -/
def SqL (K : PySem.W.Frag) (H : Hp) (a : Addr) (xs : List V) : Prop :=
  Rd H a (.lst xs) ∨
    ∃ (o : Obj) (its : Array Value) (n : Nat), K.lookup a = some o ∧ o.cls = .type "list" ∧ o.dict = none ∧ o.data = .seq its n ∧ its.size ≤ sizeLine ∧ Vals xs its.toList
def SqT (K : PySem.W.Frag) (H : Hp) (a : Addr) (xs : List V) : Prop :=
  Rd H a (.tup xs) ∨
    ∃ (o : Obj) (its : Array Value) (n : Nat), K.lookup a = some o ∧ o.cls = .type "tuple" ∧ o.data = .seq its n ∧ its.size ≤ sizeLine ∧ Vals xs its.toList
def absV : Value → Option V
  | .none => some .non
  | .bool b => some (.bl b)
  | .int i _ => some (.int i)
  | .str x _ => some (.str x)
  | .bytes b _ => some (.byt b)
  | .float b _ => some (.flt b)
  | .ref a => some (.ref a)
  | .type n => some (.ty n)
  | _ => none
theorem RelV.abs {x : V} {u : Value} (r : RelV x u) : absV u = some x := by
  cases x with
  | non => cases r; rfl
  | bl _ => cases r; rfl
  | int _ => obtain ⟨t, rfl⟩ := r; rfl
  | str _ => obtain ⟨t, rfl⟩ := r; rfl
  | byt _ => obtain ⟨t, rfl⟩ := r; rfl
  | flt _ => obtain ⟨t, rfl⟩ := r; rfl
  | ref _ => cases r; rfl
  | ty _ => cases r; rfl
theorem RelV.inj {x y : V} {u : Value} (r : RelV x u) (q : RelV y u) : x = y := Option.some.inj (r.abs.symm.trans q.abs)
theorem Vals.inj : ∀ {xs ys : List V} {us : List Value}, Vals xs us → Vals ys us → xs = ys
  | _, _, _, .nil, .nil => rfl
  | _, _, _, .cons r t, .cons r' t' => by rw [r.inj r', Vals.inj t t']
section
variable {X : Cx} {pins : List (Addr × Obj)} {σ : St} {H : Hp} {s : Shared} {a : Addr} {xs ys : List V}
theorem SqL.of {K : PySem.W.Frag} (h : H a = some (.lst xs)) : SqL K H a xs := .inl (.inl h)
theorem SqT.of {K : PySem.W.Frag} (h : H a = some (.tup xs)) : SqT K H a xs := .inl (.inl h)
theorem Inv.list (I : Inv X pins σ H s) (h : SqL X.K H a xs) : ∃ its : List Value, Vals xs its ∧ PlainL s.heap a its.toArray ∧ xs.length ≤ sizeLine := by
  rcases h with h | ⟨o, its, n, hk, hc, hd, hs, hz, r⟩
  · obtain ⟨z, its, n, r, e⟩ := h.ok I.hok
    exact ⟨its, r, ⟨_, n, e, rfl, rfl, rfl⟩, z⟩
  · refine ⟨its.toList, r, ⟨o, n, I.kIn a o hk, hc, hd, by simpa using hs⟩, ?_⟩
    have e := r.length
    simp only [Array.length_toList] at e
    omega
theorem Inv.tuple (I : Inv X pins σ H s) (h : SqT X.K H a xs) : ∃ its : List Value, Vals xs its ∧ IsTup s.heap a its.toArray ∧ xs.length ≤ sizeLine := by
  rcases h with h | ⟨o, its, n, hk, hc, hs, hz, r⟩
  · obtain ⟨z, its, r, p⟩ := h.ok I.hok
    exact ⟨its, r, p, z⟩
  · refine ⟨its.toList, r, ⟨o, I.kIn a o hk, hc, n, by simpa using hs⟩, ?_⟩
    have e := r.length
    simp only [Array.length_toList] at e
    omega
theorem Inv.list_inj (I : Inv X pins σ H s) (h : SqL X.K H a xs) (h' : SqL X.K H a ys) : xs = ys := by
  obtain ⟨its, r, ⟨o, n, e, _, _, d⟩, _⟩ := I.list h
  obtain ⟨its', r', ⟨o', n', e', _, _, d'⟩, _⟩ := I.list h'
  rw [e] at e'; cases e'
  rw [d] at d'
  injection d' with d1 _
  have : its = its' := by simpa using congrArg Array.toList d1
  subst this
  exact r.inj r'
theorem Inv.tuple_inj (I : Inv X pins σ H s) (h : SqT X.K H a xs) (h' : SqT X.K H a ys) : xs = ys := by
  obtain ⟨its, r, ⟨o, e, _, n, d⟩, _⟩ := I.tuple h
  obtain ⟨its', r', ⟨o', e', _, n', d'⟩, _⟩ := I.tuple h'
  rw [e] at e'; cases e'
  rw [d] at d'
  injection d' with d1 _
  have : its = its' := by simpa using congrArg Array.toList d1
  subst this
  exact r.inj r'
end

/-! ### another wish about exceptions -/
abbrev Cx.wish (X : Cx) (E : Value → Shared → Prop) : Cx := { X with xe := E }
/-- no exception leaves -/
abbrev Cx.nox (X : Cx) : Cx := X.wish fun _ _ => False
theorem Cx.Ok.wish {X : Cx} (ok : X.Ok) (E : Value → Shared → Prop) : (X.wish E).Ok :=
  ⟨ok.mod, ok.kind, ok.glob, ok.blt, ok.above, ok.inj, ok.has, ok.cab, ok.hd, ok.frames, ok.stk, ok.exf, ok.bs, ok.bsz, ok.noex, ok.exfs, ok.funs, ok.frf⟩
theorem Cx.Ok.unwish {X : Cx} {E : Value → Shared → Prop} (ok : (X.wish E).Ok) : X.Ok :=
  ⟨ok.mod, ok.kind, ok.glob, ok.blt, ok.above, ok.inj, ok.has, ok.cab, ok.hd, ok.frames, ok.stk, ok.exf, ok.bs, ok.bsz, ok.noex, ok.exfs, ok.funs, ok.frf⟩
section
variable {X : Cx} {pins : List (Addr × Obj)} {σ : St} {H : Hp} {s : Shared} {E : Value → Shared → Prop}
theorem Inv.wish (I : Inv X pins σ H s) (E : Value → Shared → Prop) : Inv (X.wish E) pins σ H s := ⟨I.ok.wish E, I.os, I.bare, I.base, I.loc, I.cell, I.free, I.freeC, I.pin, I.hok, I.len⟩
theorem Inv.unwish (I : Inv (X.wish E) pins σ H s) : Inv X pins σ H s := ⟨I.ok.unwish, I.os, I.bare, I.base, I.loc, I.cell, I.free, I.freeC, I.pin, I.hok, I.len⟩
theorem SP.unwish {D : Ends} {f : Flow} {s' : Shared} (h : SP (X.wish E) pins D f s') : SP X pins D f s' := by
  cases f with
  | next => obtain ⟨σ', H', I, q⟩ := h; exact ⟨σ', H', I.unwish, q⟩
  | brk => obtain ⟨σ', H', I, q⟩ := h; exact ⟨σ', H', I.unwish, q⟩
  | cont => obtain ⟨σ', H', I, q⟩ := h; exact ⟨σ', H', I.unwish, q⟩
  | ret u => obtain ⟨v, σ', H', I, r, q⟩ := h; exact ⟨v, σ', H', I.unwish, r, q⟩
theorem PE.nox {e : Expr} {t : TE} (h : PE X.nox e t) : PE X e t := fun pins s σ H Q I hw =>
  wpAny_mono (h pins s σ H Q (I.wish _) hw) (fun _ _ ⟨v, H', I', r, q⟩ => ⟨v, H', I'.unwish, r, q⟩) fun _ _ z => False.elim z
theorem PT.nox {e : Expr} {t : TT} (h : PT X.nox e t) : PT X e t := fun pins s σ H Q I hw =>
  wpAny_mono (h pins s σ H Q (I.wish _) hw) (fun _ _ ⟨H', I', q⟩ => ⟨H', I'.unwish, q⟩) fun _ _ z => False.elim z
theorem PSs.nox {st : List Stmt} {t : TS} (h : PSs X.nox st t) : PSs X st t := fun pins s σ H D I hw =>
  wpAny_mono (h pins s σ H D (I.wish _) hw) (fun _ _ q => q.unwish) fun _ _ z => False.elim z
end

/-! ### blocks and small statements -/
section
variable {X : Cx} {st : Stmt} {rest : List Stmt} {t u : TS} {e : Expr} {te : TE} {pos : Pos}
def tNext : TS := fun D σ H => D.nx σ H
def tSeq (t u : TS) : TS := fun D σ H => t { D with nx := u D } σ H
theorem pss_nil : PSs X [] tNext := fun _ _ σ H _ I h => wpAny_execs_nil ⟨σ, H, I, h⟩
theorem pss_cons (h1 : PS X st t) (h2 : PSs X rest u) : PSs X (st :: rest) (tSeq t u) := by
  intro pins s σ H D I h
  refine wpAny_execs_cons (thn (h1 pins s σ H { D with nx := u D } I h) fun f s1 q => ?_)
  cases f with
  | next =>
    obtain ⟨σ', H', I', q⟩ := q
    exact h2 pins s1 σ' H' D I' q
  | ret v => exact q
  | brk => exact q
  | cont => exact q
theorem pss_one (h1 : PS X st t) : PSs X [st] t := by
  intro pins s σ H D I h
  refine wpAny_execs_cons (thn (h1 pins s σ H D I h) fun f s1 q => ?_)
  cases f with
  | next => exact wpAny_execs_nil q
  | ret v => exact q
  | brk => exact q
  | cont => exact q
def tBreak : TS := fun D σ H => D.bk σ H
def tCont : TS := fun D σ H => D.ct σ H
theorem ps_pass : PS X (.Pass pos) tNext := fun _ _ σ H _ I h => wpAny_Pass ⟨σ, H, I, h⟩
theorem ps_break : PS X (.Break pos) tBreak := fun _ _ σ H _ I h => wpAny_Break ⟨σ, H, I, h⟩
theorem ps_continue : PS X (.Continue pos) tCont := fun _ _ σ H _ I h => wpAny_Continue ⟨σ, H, I, h⟩
/-- in a def's body nothing is shown -/
theorem Inv.quiet {pins : List (Addr × Obj)} {σ : St} {H : Hp} {s : Shared} (I : Inv X pins σ H s) : interactive X.env = false := by simp [interactive, I.ok.kind]
/-- a docstring -/
theorem ps_doc {x j pos pos'} : PS X (.Expr (.Constant (.str x) j pos) pos') tNext := fun _ s σ H _ I h => wpAny_Expr (Calls.Constant_str (show SP X _ _ .next { s with toks := s.toks + 1 } from ⟨σ, H, I.tok _, h⟩)) I.quiet
/-- an expression whose value is dropped -/
def tDrop (te : TE) : TS := fun D σ H => te σ H fun _ H1 => D.nx σ H1
theorem ps_expr (he : PE X e te) (hs : swapsWith e none pos.line X.env = pure false := by rfl) : PS X (.Expr e pos) (tDrop te) := by
  intro pins s σ H D I h
  exact wpAny_Expr_any (thn (he pins s σ H _ I h) fun v s1 ⟨x, H1, I1, r1, q1⟩ => ⟨σ, H1, I1, q1⟩) I.quiet hs
def tRet (te : TE) : TS := fun D σ H => te σ H D.rt
theorem ps_ret (he : PE X e te) : PS X (.Return (some e) pos) (tRet te) := by
  intro pins s σ H D I h
  exact wpAny_Return_some (thn (he pins s σ H _ I h) fun v s1 ⟨x, H1, I1, r1, q1⟩ => ⟨x, σ, H1, I1, r1, q1⟩)
def tRetN : TS := fun D _ H => D.rt .non H
theorem ps_retN : PS X (.Return none pos) tRetN := fun _ _ σ H _ I h => wpAny_Return_none ⟨.non, σ, H, I, rfl, h⟩
def tIfS (c : TT) (t u : TS) : TS := fun D σ H => c σ H fun b H1 => if b = true then t D σ H1 else u D σ H1
theorem ps_if {c : Expr} {a b : List Stmt} {tc : TT} (hc : PT X c tc) (ha : PSs X a t) (hb : PSs X b u) : PS X (.If c a b pos) (tIfS tc t u) := by
  intro pins s σ H D I h
  refine wpAny_If (thn (hc pins s σ H _ I h) fun d s1 ⟨H1, I1, q1⟩ => ?_)
  cases d with
  | true => exact ha pins s1 σ H1 D I1 q1
  | false => exact hb pins s1 σ H1 D I1 q1
/-- code that the proof never comes to -/
def tNever : TS := fun _ _ _ => False
theorem ps_never : PS X st tNever := fun _ _ _ _ _ _ h => h.elim
theorem pss_never {sts : List Stmt} : PSs X sts tNever := fun _ _ _ _ _ _ h => h.elim
end

/-! ### targets -/
abbrev TG := V → St → Hp → (St → Hp → Prop) → Prop
abbrev TGs := List V → St → Hp → (St → Hp → Prop) → Prop
def PG (X : Cx) (target : Expr) (t : TG) : Prop :=
  ∀ (pins : List (Addr × Obj)) (s : Shared) (σ : St) (H : Hp) (v : V) (u : Value) (Q : St → Hp → Prop), Inv X pins σ H s → RelV v u → t v σ H Q →
    wpAny (model X.prog X.w) X.A (assign target X.env u) (fun _ s' => ∃ σ' H', Inv X pins σ' H' s' ∧ Q σ' H') X.xe s
/-- several targets, one after another -/
def PGs (X : Cx) (ts : List Expr) (t : TGs) : Prop :=
  ∀ (pins : List (Addr × Obj)) (s : Shared) (σ : St) (H : Hp) (vs : List V) (us : List Value) (Q : St → Hp → Prop), Inv X pins σ H s → Vals vs us → t vs σ H Q →
    wpAny (model X.prog X.w) X.A (assignInOrder ((assignEach ts X.env).map (·.2)) us) (fun _ s' => ∃ σ' H', Inv X pins σ' H' s' ∧ Q σ' H') X.xe s
/-- o[i] = v, by values -/
abbrev TSet := V → V → V → Hp → (Hp → Prop) → Prop
def PSet (X : Cx) (t : TSet) : Prop :=
  ∀ (pins : List (Addr × Obj)) (s : Shared) (σ : St) (H : Hp) (o i v : V) (ov iv u : Value) (Q : Hp → Prop), Inv X pins σ H s → RelV o ov → RelV i iv → RelV v u → t o i v H Q →
    wpAny (model X.prog X.w) X.A (setItem ov iv u) (fun _ s' => ∃ H', Inv X pins σ H' s' ∧ Q H') X.xe s
/-- a op= b, by values -/
abbrev TIp := V → V → Hp → VK → Prop
def PIp (X : Cx) (op : Operator) (t : TIp) : Prop :=
  ∀ (pins : List (Addr × Obj)) (s : Shared) (σ : St) (H : Hp) (x y : V) (v u : Value) (Q : VK), Inv X pins σ H s → RelV x v → RelV y u → t x y H Q →
    wpAny (model X.prog X.w) X.A (inplaceOp op v u) (EP X pins σ Q) X.xe s
section
variable {X : Cx} {pos : Pos}
def gName (i : Nat) : TG := fun v σ H Q => Q (σ.set i (some v)) H
theorem pg_name {i : Nat} {x : Str} (hN : X.N.Nodup) (hi : X.N[i]? = some x) (hx : Loc X.env.scope x) (hf : X.fn x = true ∨ X.env.scope.names.lookup x = some .local := by first | exact .inl rfl | exact .inr rfl | assumption) : PG X (.Name x pos) (gName i) := by
  intro pins s σ H v u Q I r h
  exact wpAny_assign_Name (store_ok I hN hi hx r (fun s' I' => ⟨_, H, I', h⟩) hf)
def gNil : TGs := fun vs σ H Q => vs = [] ∧ Q σ H
inductive I_gCons (t : TG) (u : TGs) (vs : List V) (σ : St) (H : Hp) (Q : St → Hp → Prop) : Prop where
  | mk (v : V) (r : List V) (h0_ : vs = v :: r) (h1_ : t v σ H fun σ' H' => u r σ' H' Q) : I_gCons t u vs σ H Q
def gCons (t : TG) (u : TGs) : TGs := fun vs σ H Q => I_gCons t u vs σ H Q
theorem pgs_nil : PGs X [] gNil := by
  intro pins s σ H vs us Q I r h
  obtain ⟨e, h⟩ := h
  subst e
  cases r
  exact assignInOrder_nil ⟨σ, H, I, h⟩
theorem pgs_cons {e : Expr} {es : List Expr} {t : TG} {u : TGs} (h1 : PG X e t) (h2 : PGs X es u)
    (hs : (assignEach (e :: es) X.env).map (·.2) = assign e X.env :: (assignEach es X.env).map (·.2) := by rfl) : PGs X (e :: es) (gCons t u) := by
  intro pins s σ H vs us Q I r h
  obtain ⟨v, vr, e1, h⟩ := h
  subst e1
  cases r with
  | cons r rr =>
    rw [hs]
    refine assignInOrder_cons (thn (h1 pins s σ H _ _ _ I r h) fun _ s1 ⟨σ1, H1, I1, q1⟩ => ?_)
    exact h2 pins s1 σ1 H1 _ _ Q I1 rr q1
/-- (a, b, ..) = a tuple of that length -/
inductive I_gTup (K : PySem.W.Frag) (n : Nat) (t : TGs) (v : V) (σ : St) (H : Hp) (Q : St → Hp → Prop) : Prop where
  | mk (a : Addr) (xs : List V) (h0_ : v = .ref a) (h1_ : SqT K H a xs) (h2_ : xs.length = n) (h3_ : t xs σ H Q) : I_gTup K n t v σ H Q
def gTup (K : PySem.W.Frag) (n : Nat) (t : TGs) : TG := fun v σ H Q => I_gTup K n t v σ H Q
theorem pg_tup {es : List Expr} {k : Nat} {t : TGs} {n : Nat} (hc : X.calm = true) (h : PGs X es t)
    (hn : (assignEach es X.env).length = n := by rfl) (hst : (assignEach es X.env).findIdx? (·.1) = none := by rfl) : PG X (.Tuple es k pos) (gTup X.K n t) := by
  intro pins s σ H v u Q I r hw
  obtain ⟨a, xs, e1, hq, hl, hw⟩ := hw
  subst e1
  cases r
  obtain ⟨its, rv, ht, hz⟩ := I.tuple hq
  refine assign_Tuple_tuple (I.ok.hd hc) ht (by simp [hn, ← hl, rv.length]) hst fun h' hx => ?_
  have I1 : Inv X pins σ H { s with heap := h' } := I.kept (t' := s.toks) fun b o e => hx b o (Nat.ne_of_lt (Heap.lt_size e)) e
  exact h pins _ σ H xs _ Q I1 (by simpa using rv) hw
/-- o[i] = .. -/
def gSub (to ti : TE) (t : TSet) : TG := fun v σ H Q => to σ H fun o H1 => ti σ H1 fun i H2 => t o i v H2 fun H3 => Q σ H3
theorem pg_sub {o i : Expr} {to ti : TE} {t : TSet} (ho : PE X o to) (hi : PE X i ti) (hs : PSet X t)
    (ha : ∀ v, assign (.Subscript o i pos) X.env v = (do
      let ov ← holding [v] (eval o X.env)
      let iv ← holding [v, ov] (eval i X.env)
      standAt pos
      holding [v, ov, iv] (setItem ov iv v)
      release [v, ov, iv] []) := by intro _; rfl) : PG X (.Subscript o i pos) (gSub to ti t) := by
  intro pins s σ H v u Q I r h
  rw [ha]
  refine wpAny_bind (wpAny_holding (thn (ho pins s σ H _ I h) fun ov s1 ⟨x, H1, I1, r1, q1⟩ => ?_))
  refine wpAny_bind (wpAny_holding (thn (hi pins s1 σ H1 _ I1 q1) fun iv s2 ⟨y, H2, I2, r2, q2⟩ => ?_))
  refine wpAny_bind (wpAny_standAt (wpAny_bind (wpAny_holding (thn (hs pins s2 σ H2 x y v ov iv u _ I2 r1 r2 r q2) fun _ s3 ⟨H3, I3, q3⟩ => ?_))))
  exact wpAny_release ⟨σ, H3, I3, q3⟩
/-- target = value -/
def tAsg (te : TE) (g : TG) : TS := fun D σ H => te σ H fun x H1 => g x σ H1 D.nx
theorem ps_asg {tg e : Expr} {te : TE} {g : TG} (he : PE X e te) (hg : PG X tg g) (hs : swapsWithSole [tg] e pos.line X.env = pure false := by rfl) (hw : swappedStores [tg] e X.env = pure none := by rfl)
    (h1 : (assignEach [tg] X.env).map (·.2) = [assign tg X.env] := by rfl) : PS X (.Assign [tg] e pos) (tAsg te g) := by
  intro pins s σ H D I h
  refine wpAny_Assign_stores (thn (he pins s σ H _ I h) fun v s1 ⟨x, H1, I1, r1, q1⟩ => ?_) hs hw
  rw [h1]
  exact thn (hg pins s1 σ H1 x v _ I1 r1 q1) fun _ s2 q => q
/-- name = value -/
theorem ps_set {i : Nat} {x : Str} {e : Expr} {te : TE} {pos' : Pos} (hN : X.N.Nodup) (hi : X.N[i]? = some x) (hx : Loc X.env.scope x) (he : PE X e te) (hs : swapsWith e (some (.Name x pos')) pos.line X.env = pure false := by rfl) (hf : X.fn x = true ∨ X.env.scope.names.lookup x = some .local := by first | exact .inl rfl | exact .inr rfl | assumption) :
    PS X (.Assign [.Name x pos'] e pos) (tAsg te (gName i)) := by
  intro pins s σ H D I h
  refine wpAny_Assign_Name (thn (he pins s σ H _ I h) fun v s1 ⟨y, H1, I1, r1, q1⟩ => ?_) hs
  exact store_ok I1 hN hi hx r1 (fun s2 I2 => ⟨_, H1, I2, q1⟩) hf
/-- a, b = x, y with plain local names: stored from the right; the pair itself is not tracked (the opening rows as in PyProof/Rows/TupAssign.lean:23) -/
def tPar (i j : Nat) (ta : TA) : TS := fun D σ H => ta σ H fun vs H1 => ∃ v w, vs = [v, w] ∧ D.nx ((σ.set i (some v)).set j (some w)) H1
theorem ps_par {i j : Nat} {x y : Str} {a b : Expr} {ta : TA} {px py pt : Pos} {kt k2 pt2} (hc : X.calm = true) (hN : X.N.Nodup) (hi : X.N[i]? = some x) (hj : X.N[j]? = some y) (hij : i ≠ j)
    (hx : X.env.scope.names.lookup x = some .local) (hy : X.env.scope.names.lookup y = some .local) (ha : PA X [a, b] ta)
    (hw : swappedStores [.Tuple [.Name x px, .Name y py] kt pt] (.Tuple [a, b] k2 pt2) X.env = pure (some [x, y]))
    (hs : swapsWithSole [.Tuple [.Name x px, .Name y py] kt pt] (.Tuple [a, b] k2 pt2) pos.line X.env = pure false := by rfl) :
    PS X (.Assign [.Tuple [.Name x px, .Name y py] kt pt] (.Tuple [a, b] k2 pt2) pos) (tPar i j ta) := by
  intro pins s σ H D I h
  rw [exec_Assign_arm]
  refine wpAny_bind (wpAny_standAt ?_)
  rw [hs]
  refine wpAny_bind (wpAny_pure ?_)
  rw [if_neg (by decide)]
  refine wpAny_bind (Tuple_ (thn (ha _ pins s σ H _ I h) fun us s1 ⟨vs, H1, I1, r1, q1⟩ => ?_))
  obtain ⟨v, w, e1, q1⟩ := q1
  subst e1
  obtain ⟨u1, u2, rfl, rv, rw'⟩ : ∃ u1 u2, us = [u1, u2] ∧ RelV v u1 ∧ RelV w u2 := by
    cases r1 with
    | cons p q =>
      cases q with
      | cons p' q' =>
        cases q'
        exact ⟨_, _, rfl, p, p'⟩
  refine wpAny_newObj_type ?_ (by show 2 ≤ sizeLine; decide)
  have I2 : Inv X pins σ H1 { s1 with heap := s1.heap.push { cls := .type "tuple", data := .seq [u1, u2].toArray } } := I1.kept (t' := s1.toks) fun b o e => Heap.get?_push_of_some _ e
  rw [hw]
  refine wpAny_bind (wpAny_pure ?_)
  show wpAny (model X.prog X.w) X.A (do rule "assign.swapped-stores"; let items ← unpackItems (.ref s1.heap.objs.size) 2 none; assignInOrder [fun v => bindName X.env y v, fun v => bindName X.env x v] items.reverse; pure Flow.next) _ _ _
  refine wpAny_bind (wpAny_rule (wpAny_bind (unpackItems_tuple (items := #[u1, u2]) (I.ok.hd hc) (IsTup.new s1.heap _) fun h' hx' => ?_)))
  have I3 := I2.kept (h' := h') (t' := s1.toks) fun b o e => hx' b o (Nat.ne_of_lt (Heap.lt_size e)) e
  show wpAny _ _ (assignInOrder [fun v => bindName X.env y v, fun v => bindName X.env x v] [u2, u1] >>= fun _ => pure Flow.next) _ _ _
  refine wpAny_bind (assignInOrder_cons (wpAny_bindName (store_ok I3 hN hj (.inl hy) rw' (fun s2 I4 => ?_) (.inr hy))))
  refine assignInOrder_cons (wpAny_bindName (store_ok I4 hN hi (.inl hx) rv (fun s3 I5 => assignInOrder_nil (wpAny_pure ?_)) (.inr hx)))
  rw [List.set_comm _ _ (Ne.symm hij)] at I5
  exact ⟨_, H1, I5, q1⟩
/-- name op= e -/
def tAug (i : Nat) (te : TE) (ti : TIp) : TS := fun D σ H => ∃ x, σ[i]? = some (some x) ∧ te σ H fun y H1 => ti x y H1 fun z H2 => D.nx (σ.set i (some z)) H2
theorem ps_aug {i : Nat} {x : Str} {e : Expr} {te : TE} {op : Operator} {ti : TIp} {pos' : Pos} (hN : X.N.Nodup) (hi : X.N[i]? = some x) (hx : Loc X.env.scope x) (he : PE X e te) (ho : PIp X op ti) (hf : X.fn x = true ∨ X.env.scope.names.lookup x = some .local := by first | exact .inl rfl | exact .inr rfl | assumption) :
    PS X (.AugAssign (.Name x pos') op e pos) (tAug i te ti) := by
  intro pins s σ H D I h
  obtain ⟨v, e1, h⟩ := h
  obtain ⟨m, hn, hl⟩ := I.loc
  have vis : Vis X.env.scope x := by rcases hx with k | k; exact .inl k; exact .inr (.inl k)
  obtain ⟨u, r, l⟩ := hl i x v hi e1 vis
  refine wpAny_AugAssign_Name ?_
  have go : wpAny (model X.prog X.w) X.A (eval e X.env) (fun w s₂ => wpAny (model X.prog X.w) X.A (inplaceOp op u w) (fun r s₃ => wpAny (model X.prog X.w) X.A (storeName X.env x r) (fun _ => SP X pins D .next) X.xe s₃) X.xe s₂) X.xe s := by
    refine thn (he pins s σ H _ I h) fun w s1 ⟨y, H1, I1, r1, q1⟩ => ?_
    refine thn (ho pins s1 σ H1 v y u w _ I1 r r1 q1) fun z s2 ⟨zv, H2, I2, r2, q2⟩ => ?_
    exact store_ok I2 hN hi hx r2 (fun s3 I3 => ⟨_, H2, I3, q2⟩) hf
  rcases l with ⟨hk, hm⟩ | ⟨hk, c, hc, hcell⟩
  · exact wpAny_loadName_local I.ok.kind hk hn hm go
  · rcases hk with hk | hk
    · exact wpAny_loadName_cell I.ok.kind hk hc hcell go
    · rcases hx with k | k
      · have : X.env.scope.names.lookup x = some .free := hk
        rw [k] at this; cases this
      · have : X.env.scope.names.lookup x = some .free := hk
        rw [k] at this; cases this
/-- o[i] op= e -/
def tAugS (to ti te : TE) (tget : V → V → Hp → VK → Prop) (tip : TIp) (tset : TSet) : TS := fun D σ H => to σ H fun o H1 => ti σ H1 fun i H2 => tget o i H2 fun x H3 => te σ H3 fun y H4 => tip x y H4 fun z H5 => tset o i z H5 fun H6 => D.nx σ H6
/-- o[i], by values -/
def PGet (X : Cx) (t : V → V → Hp → VK → Prop) : Prop :=
  ∀ (pins : List (Addr × Obj)) (s : Shared) (σ : St) (H : Hp) (o i : V) (ov iv : Value) (Q : VK), Inv X pins σ H s → RelV o ov → RelV i iv → t o i H Q →
    wpAny (model X.prog X.w) X.A (getItem ov iv) (EP X pins σ Q) X.xe s
theorem ps_augS {o i e : Expr} {to ti te : TE} {tget : V → V → Hp → VK → Prop} {tip : TIp} {tset : TSet} {op : Operator} {tpos : Pos} (ho : PE X o to) (hi : PE X i ti) (hg : PGet X tget) (he : PE X e te) (hp : PIp X op tip) (hs : PSet X tset)
    (ha : ∀ ov iv new, augStore i ov iv new = (do holding [new, ov, iv] (setItem ov iv new); release [new, ov, iv] []; pure .next) := by intros; rfl) : PS X (.AugAssign (.Subscript o i tpos) op e pos) (tAugS to ti te tget tip tset) := by
  intro pins s σ H D I h
  refine wpAny_AugAssign_SubscriptAny (thn (ho pins s σ H _ I h) fun ov s1 ⟨x1, H1, I1, r1, q1⟩ => ?_) ha
  refine thn (hi pins s1 σ H1 _ I1 q1) fun iv s2 ⟨x2, H2, I2, r2, q2⟩ => ?_
  refine thn (hg pins s2 σ H2 x1 x2 ov iv _ I2 r1 r2 q2) fun old s3 ⟨x3, H3, I3, r3, q3⟩ => ?_
  refine thn (he pins s3 σ H3 _ I3 q3) fun v s4 ⟨x4, H4, I4, r4, q4⟩ => ?_
  refine thn (hp pins s4 σ H4 x3 x4 old v _ I4 r3 r4 q4) fun new s5 ⟨x5, H5, I5, r5, q5⟩ => ?_
  exact thn (hs pins s5 σ H5 x1 x2 x5 ov iv new _ I5 r1 r2 r5 q5) fun _ s6 ⟨H6, I6, q6⟩ => ⟨σ, H6, I6, q6⟩
/-- ints -/
def ipI (f : Int → Int → Int) : TIp := fun x y H Q => ∃ i j, x = .int i ∧ y = .int j ∧ Q (.int (f i j)) H
theorem ip_add : PIp X .Add (ipI fun i j => i + j) := by
  intro pins s σ H x y v u Q I r1 r2 h
  obtain ⟨i, j, e1, e2, q⟩ := h
  subst e1; subst e2
  obtain ⟨t, rfl⟩ := r1
  obtain ⟨t', rfl⟩ := r2
  exact iadd_int ⟨.int _, H, I.tok _, ⟨_, rfl⟩, q⟩
theorem ip_sub : PIp X .Sub (ipI fun i j => i - j) := by
  intro pins s σ H x y v u Q I r1 r2 h
  obtain ⟨i, j, e1, e2, q⟩ := h
  subst e1; subst e2
  obtain ⟨t, rfl⟩ := r1
  obtain ⟨t', rfl⟩ := r2
  exact isub_int ⟨.int _, H, I.tok _, ⟨_, rfl⟩, q⟩
end

/-! ### while -/
section
variable {X : Cx} {pos : Pos}
/-- the invariant W with its measure -/
def tWhile (c : TT) (tb : TS) : TS := fun D σ H => ∃ W : Nat → St → Hp → Prop, (∃ m, W m σ H) ∧ ∀ m σ H, W m σ H →
  c σ H fun b H1 => if b = true then ∃ N : St → Hp → Prop, (∀ σ' H', N σ' H' → ∃ m', m' < m ∧ W m' σ' H') ∧ tb { D with nx := N, ct := N, bk := D.nx } σ H1 else D.nx σ H1
theorem ps_while {c : Expr} {body : List Stmt} {tc : TT} {tb : TS} (hp : PassesOwn (model X.prog X.w) X.A X.env X.xe) (hc : PT X c tc) (hb : PSs X body tb) : PS X (.While c body [] pos) (tWhile tc tb) := by
  intro pins s σ H D I h
  obtain ⟨W, ⟨m0, w0⟩, turn⟩ := h
  refine wpAny_While (codeAny_whileLoop (fun n s' => ∃ σ' H', Inv X pins σ' H' s' ∧ W n σ' H') ?_ m0 ⟨σ, H, I, w0⟩)
  rintro n s1 ⟨σ1, H1, I1, w1⟩
  refine wpAny_passesOwn hp (thn (hc pins s1 σ1 H1 _ I1 (turn n σ1 H1 w1)) fun b s2 ⟨H2, I2, q2⟩ => ?_)
  cases b with
  | true =>
    obtain ⟨N, hN, q2⟩ := q2
    rw [if_pos rfl]
    refine wpAny_passesOwn hp (thn (hb pins s2 σ1 H2 _ I2 q2) fun f s3 q3 => ?_)
    cases f with
    | next =>
      obtain ⟨σ3, H3, I3, n3⟩ := q3
      obtain ⟨m', hm, w3⟩ := hN σ3 H3 n3
      exact ⟨m', hm, σ3, H3, I3, w3⟩
    | cont =>
      obtain ⟨σ3, H3, I3, n3⟩ := q3
      obtain ⟨m', hm, w3⟩ := hN σ3 H3 n3
      exact ⟨m', hm, σ3, H3, I3, w3⟩
    | brk => exact q3
    | ret v => exact q3
  | false =>
    rw [if_neg Bool.false_ne_true]
    exact wpAny_execs_nil ⟨σ1, H2, I2, q2⟩
end

/-! ### what a loop or a comprehension walks -/
/-- at turn i: it yields x (the heap may grow), or it stops -/
structure It where
  go : Nat → Hp → Prop
  yld : Nat → Hp → V → Hp → Prop
  stop : Nat → Hp → Prop
/-- the iterator's own objects may turn: they are not the frame's, not pinned, younger than the entry (or a comprehension's own) -/
def FpOk (X : Cx) (pins : List (Addr × Obj)) (H : Hp) (b : Addr) : Prop :=
  H b = none ∧ b ≠ X.env.locals ∧ b ∉ X.fs ∧ (b ∈ X.ex ∨ X.s₀.heap.objs.size ≤ b) ∧ (∀ x c, X.env.cells.lookup x = some c → c ≠ b) ∧ ∀ p ∈ X.pn ++ pins, p.1 ≠ b
theorem Inv.fpOk {X : Cx} {pins : List (Addr × Obj)} {σ : St} {H H' : Hp} {s : Shared} {b : Addr} (I : Inv X pins σ H s) (hb : s.heap.objs.size ≤ b) (hn : H' b = none) : FpOk X pins H' b := by
  refine ⟨hn, Nat.ne_of_gt (Nat.lt_of_lt_of_le I.lt hb), I.nofs hb, .inr (Nat.le_trans I.sz hb), fun x c e z => ?_, fun p hp z => ?_⟩
  · obtain ⟨v, q⟩ := I.cell x c e
    exact absurd (Nat.lt_of_lt_of_le q.lt (by rw [z]; exact hb)) (Nat.lt_irrefl _)
  · exact absurd (Nat.lt_of_lt_of_le (Heap.lt_size (I.pin p hp).1) (by rw [z]; exact hb)) (Nat.lt_irrefl _)
structure Turn (P : Program) (w : World) (K : PySem.W.Frag) (tg : Expr) (J : It) (fp : List Addr) (it : Addr) (tn : Nat → Heap → Prop) : Prop where
  mem : it ∈ fp
  obj : ∀ i h, tn i h → ∀ b ∈ fp, ∃ o, h.get? b = some o ∧ ∀ v, o.data ≠ .cell v
  keep : ∀ i h h', tn i h → (∀ b ∈ fp, ∀ o, h.get? b = some o → h'.get? b = some o) → tn i h'
  item : ∀ (X : Cx), X.prog = P → X.w = w → X.K = K → X.calm = true → ∀ (i : Nat) (pins : List (Addr × Obj)) (s : Shared) (σ : St) (H : Hp) (E : Value → Shared → Prop), Inv X pins σ H s → (∀ b ∈ fp, FpOk X pins H b) → tn i s.heap → J.go i H →
    wpAny (model P w) X.A (pyNext (.ref it)) (fun r s1 => ∃ u, r = some u ∧
      wpAny (model P w) X.A (letOwnedTupleGo tg (.ref it) u) (fun _ s2 => ∃ x H', Inv X pins σ H' s2 ∧ RelV x u ∧ J.yld i H x H' ∧ tn (i + 1) s2.heap ∧ ∀ b ∈ fp, H' b = none) E s1) E s
  done : ∀ (X : Cx), X.prog = P → X.w = w → X.K = K → X.calm = true → ∀ (i : Nat) (pins : List (Addr × Obj)) (s : Shared) (σ : St) (H : Hp) (E : Value → Shared → Prop), Inv X pins σ H s → (∀ b ∈ fp, FpOk X pins H b) → tn i s.heap → J.stop i H →
    wpAny (model P w) X.A (pyNext (.ref it)) (fun r s1 => r = none ∧ Inv X pins σ H s1) E s
  self : ∀ (A : Around) (i : Nat) (s : Shared) (Q : Value → Shared → Prop) (E : Value → Shared → Prop), tn i s.heap → Q (.ref it) s → wpAny (model P w) A (pyIter (.ref it)) Q E s
abbrev TI := St → Hp → (It → Hp → Prop) → Prop
/-- an iterator has come -/
def PIE (X : Cx) (pins : List (Addr × Obj)) (σ : St) (tg : Expr) (R : It → Hp → Prop) (itv : Value) (s2 : Shared) : Prop :=
  ∃ (it : Addr) (fp : List Addr) (tn : Nat → Heap → Prop) (J : It) (H' : Hp), itv = .ref it ∧ Inv X pins σ H' s2 ∧ Turn X.prog X.w X.K tg J fp it tn ∧ tn 0 s2.heap ∧ (∀ b ∈ fp, FpOk X pins H' b) ∧ R J H'
def PI (X : Cx) (tg iter : Expr) (wi : TI) : Prop :=
  ∀ (pins : List (Addr × Obj)) (s : Shared) (σ : St) (H : Hp) (R : It → Hp → Prop), Inv X pins σ H s → wi σ H R →
    wpAny (model X.prog X.w) X.A (eval iter X.env) (fun v s1 => wpAny (model X.prog X.w) X.A (pyIter v) (PIE X pins σ tg R) X.xe s1) X.xe s

/-- the step ahead of the store is nothing for an iterator that keeps no tuple -/
theorem go_of {M : Model} {A : Around} {E : Value → Shared → Prop} {s : Shared} {tg : Expr} {it : Addr} {u : Value} {o : Obj} {n : String} {vs : Array Value} {Q : Unit → Shared → Prop} (ho : s.heap.get? it = some o) (hc : o.cls = .type n) (hd : o.data = .fields vs)
    (hn : ["enumerate", "zip", "dict_itemiterator", "dict_reverseitemiterator", "odict_iterator", "itertools.zip_longest", "itertools.pairwise"].contains n = false) (hQ : Q () s) : wpAny M A (letOwnedTupleGo tg (.ref it) u) Q E s := by
  unfold letOwnedTupleGo
  cases tg <;> first
    | exact wpAny_pure hQ
    | (cases u <;> first
        | exact wpAny_pure hQ
        | (refine wpAny_bind (wpAny_load ho ?_)
           rw [hc, hd]
           show wpAny M A (if (["enumerate", "zip", "dict_itemiterator", "dict_reverseitemiterator", "odict_iterator", "itertools.zip_longest", "itertools.pairwise"].contains n && vs[0]? == some (rawInt _)) = true then _ else _) Q E s
           rw [if_neg (by intro h; rw [hn, Bool.false_and] at h; cases h)]
           exact wpAny_pure hQ))

/-- the list at a, as it stands at each turn (a loop may append to it) -/
def Itl (K : PySem.W.Frag) (a : Addr) : It :=
  ⟨fun i H => ∃ xs x, SqL K H a xs ∧ xs[i]? = some x, fun i H x H' => H' = H ∧ ∀ xs, SqL K H a xs → xs[i]? = some x, fun i H => ∃ xs, SqL K H a xs ∧ xs.length ≤ i⟩
def Itt (K : PySem.W.Frag) (a : Addr) : It :=
  ⟨fun i H => ∃ xs x, SqT K H a xs ∧ xs[i]? = some x, fun i H x H' => H' = H ∧ ∀ xs, SqT K H a xs → xs[i]? = some x, fun i H => ∃ xs, SqT K H a xs ∧ xs.length ≤ i⟩
/-- lo, lo + 1, .. (n of them) -/
def Itr (lo : Int) (n : Nat) : It := ⟨fun i _ => i < n, fun i H x H' => H' = H ∧ x = .int (lo + i), fun i _ => n ≤ i⟩
theorem turn_list {P : Program} {w : World} {K : PySem.W.Frag} {tg : Expr} (a it : Addr) : Turn P w K tg (Itl K a) [it] it (fun i h => h.IsListIter it a i) where
  mem := by simp
  obj := fun i h st b hb => by
    have e : b = it := by simpa using hb
    subst e
    obtain ⟨o, e, c, d⟩ := st
    exact ⟨o, e, fun v z => by rw [d] at z; cases z⟩
  keep := fun i h h' st k => st.at fun o e => k it (by simp) o e
  item := by
    intro X hP hw hK hc i pins s σ H E I hf st hg
    subst hP hw hK
    obtain ⟨xs, x, hq, hx⟩ := hg
    obtain ⟨its, rv, p, hz⟩ := I.list hq
    obtain ⟨u, hu, ru⟩ := rv.get hx
    obtain ⟨f0, f1, f2, f3, f4, f5⟩ := hf it (by simp)
    refine wpAny_pyNext_list_item st p.isList (x := u) (by simpa using hu) fun h' st' sb => ?_
    have I1 : Inv X pins σ H { s with heap := h' } := I.turned (t' := s.toks) (fun b o hb e => (sb.2 b hb).trans e) f0 f1 f3 f4 f5
    obtain ⟨o, e, c, d⟩ := id st'
    exact ⟨u, rfl, go_of (s := { s with heap := h' }) e c d (by decide) ⟨x, H, I1, ru, ⟨rfl, fun ys hy => by rw [I.list_inj hy hq]; exact hx⟩, st', fun b hb => (hf b hb).1⟩⟩
  done := by
    intro X hP hw hK hc i pins s σ H E I hf st hg
    subst hP hw hK
    obtain ⟨xs, hq, hx⟩ := hg
    obtain ⟨its, rv, p, hz⟩ := I.list hq
    obtain ⟨f0, f1, f2, f3, f4, f5⟩ := hf it (by simp)
    have hl := rv.length
    exact wpAny_pyNext_list_end (I.ok.hd hc) st p.isList (by simp; omega) fun h' eb => ⟨rfl, I.turned (t' := s.toks) (fun b o hb e => eb b o hb e) f0 f1 f3 f4 f5⟩
  self := fun _ _ _ _ _ st h => wpAny_pyIter_listiter st h
theorem turn_tuple {P : Program} {w : World} {K : PySem.W.Frag} {tg : Expr} (a it : Addr) : Turn P w K tg (Itt K a) [it] it (fun i h => h.IsTupleIter it a i) where
  mem := by simp
  obj := fun i h st b hb => by
    have e : b = it := by simpa using hb
    subst e
    obtain ⟨o, e, c, d⟩ := st
    exact ⟨o, e, fun v z => by rw [d] at z; cases z⟩
  keep := fun i h h' st k => st.at fun o e => k it (by simp) o e
  item := by
    intro X hP hw hK hc i pins s σ H E I hf st hg
    subst hP hw hK
    obtain ⟨xs, x, hq, hx⟩ := hg
    obtain ⟨its, rv, p, hz⟩ := I.tuple hq
    obtain ⟨u, hu, ru⟩ := rv.get hx
    obtain ⟨f0, f1, f2, f3, f4, f5⟩ := hf it (by simp)
    refine wpAny_pyNext_tuple_item st (show s.heap.IsTuple a its.toArray from p) (x := u) (by simpa using hu) fun h' st' sb => ?_
    have I1 : Inv X pins σ H { s with heap := h' } := I.turned (t' := s.toks) (fun b o hb e => (sb.2 b hb).trans e) f0 f1 f3 f4 f5
    obtain ⟨o, e, c, d⟩ := id st'
    exact ⟨u, rfl, go_of (s := { s with heap := h' }) e c d (by decide) ⟨x, H, I1, ru, ⟨rfl, fun ys hy => by rw [I.tuple_inj hy hq]; exact hx⟩, st', fun b hb => (hf b hb).1⟩⟩
  done := by
    intro X hP hw hK hc i pins s σ H E I hf st hg
    subst hP hw hK
    obtain ⟨xs, hq, hx⟩ := hg
    obtain ⟨its, rv, p, hz⟩ := I.tuple hq
    obtain ⟨f0, f1, f2, f3, f4, f5⟩ := hf it (by simp)
    have hl := rv.length
    exact wpAny_pyNext_tuple_end (I.ok.hd hc) st (show s.heap.IsTuple a its.toArray from p) (by simp; omega) fun h' eb => ⟨rfl, I.turned (t' := s.toks) (fun b o hb e => eb b o hb e) f0 f1 f3 f4 f5⟩
  self := fun _ _ _ _ _ st h => wpAny_pyIter_tupleiter st h
theorem turn_range {P : Program} {w : World} {K : PySem.W.Frag} {tg : Expr} (it : Addr) (lo : Int) (n : Nat) : Turn P w K tg (Itr lo n) [it] it (fun i h => IsRangeIter h it (lo + (i : Nat) * 1) ((n : Int) - (i : Nat)) 1) where
  mem := by simp
  obj := fun i h st b hb => by
    have e : b = it := by simpa using hb
    subst e
    exact ⟨_, st, fun v z => by
      have z' : Data.fields _ = Data.cell v := z
      cases z'⟩
  keep := fun i h h' st k => k it (by simp) _ st
  item := by
    intro X hP hw hK hc i pins s σ H E I hf st hg
    subst hP hw hK
    obtain ⟨f0, f1, f2, f3, f4, f5⟩ := hf it (by simp)
    have W := Walks.range (prog := X.prog) (w := X.w) (I.ok.hd hc) it lo 1 n
    refine W.item i s _ _ hg st fun v h' tk hv st' kk => ?_
    obtain ⟨t, rfl⟩ := hv
    have I1 : Inv X pins σ H { s with heap := h', toks := tk } := I.turned (fun b o hb e => kk b o (by simpa using hb) e) f0 f1 f3 f4 f5
    refine ⟨_, rfl, go_of (s := { s with heap := h', toks := tk }) (n := "range_iterator") st' rfl rfl (by decide) ⟨.int (lo + i), H, I1, ⟨t, ?_⟩, ⟨rfl, rfl⟩, st', fun b hb => (hf b hb).1⟩⟩
    rw [Int.mul_one]
  done := by
    intro X hP hw hK hc i pins s σ H E I hf st hg
    subst hP hw hK
    obtain ⟨f0, f1, f2, f3, f4, f5⟩ := hf it (by simp)
    exact wpAny_pyNext_range_end (I.ok.hd hc) st (by have : n ≤ i := hg; omega) fun h' eb => ⟨rfl, I.turned (t' := s.toks) (fun b o hb e => eb b o hb e) f0 f1 f3 f4 f5⟩
  self := fun _ _ _ _ _ st h => wpAny_pyIter_rangeiter st h
end L2

namespace L2
open PySem PySem.Spec PyProof.Rows
section
variable {X : Cx} {tg : Expr}
inductive I_iList (K : PySem.W.Frag) (x : V) (H1 : Hp) (R : It → Hp → Prop) : Prop where
  | mk (a : Addr) (h0_ : x = .ref a) (h1_ : (∃ xs, SqL K H1 a xs)) (h2_ : R (Itl K a) H1) : I_iList K x H1 R
def iList (K : PySem.W.Frag) (tl : TE) : TI := fun σ H R => tl σ H fun x H1 => I_iList K x H1 R
def iTup (K : PySem.W.Frag) (tl : TE) : TI := fun σ H R => tl σ H fun x H1 => ∃ a, x = .ref a ∧ (∃ xs, SqT K H1 a xs) ∧ R (Itt K a) H1
theorem pi_list {l : Expr} {tl : TE} (hl : PE X l tl) : PI X tg l (iList X.K tl) := by
  intro pins s σ H R I h
  refine thn (hl pins s σ H _ I h) fun v s1 ⟨x, H1, I1, r1, q1⟩ => ?_
  obtain ⟨a, e, ⟨xs, hq⟩, q⟩ := q1
  subst e
  cases r1
  obtain ⟨its, rv, p, hz⟩ := I1.list hq
  refine wpAny_pyIter_list p.isList ?_
  refine ⟨s1.heap.objs.size, [s1.heap.objs.size], _, _, H1, rfl, I1.kept (t' := s1.toks) fun b o e => Heap.get?_push_of_some _ e, turn_list a _, ⟨_, Heap.get?_push_size _ rfl, rfl, rfl⟩, fun b hb => ?_, q⟩
  have e : b = s1.heap.objs.size := by simpa using hb
  subst e
  exact I1.fpOk (Nat.le_refl _) (I1.hok.fresh (Nat.le_refl _))
theorem pi_tup {l : Expr} {tl : TE} (hl : PE X l tl) : PI X tg l (iTup X.K tl) := by
  intro pins s σ H R I h
  refine thn (hl pins s σ H _ I h) fun v s1 ⟨x, H1, I1, r1, q1⟩ => ?_
  obtain ⟨a, e, ⟨xs, hq⟩, q⟩ := q1
  subst e
  cases r1
  obtain ⟨its, rv, p, hz⟩ := I1.tuple hq
  refine wpAny_pyIter_tuple (show s1.heap.IsTuple a its.toArray from p) ?_
  refine ⟨s1.heap.objs.size, [s1.heap.objs.size], _, _, H1, rfl, I1.kept (t' := s1.toks) fun b o e => Heap.get?_push_of_some _ e, turn_tuple a _, ⟨_, Heap.get?_push_size _ rfl, rfl, rfl⟩, fun b hb => ?_, q⟩
  have e : b = s1.heap.objs.size := by simpa using hb
  subst e
  exact I1.fpOk (Nat.le_refl _) (I1.hok.fresh (Nat.le_refl _))
/-- a range object just made, walked -/
theorem range_it {pins : List (Addr × Obj)} {σ : St} {H : Hp} {s : Shared} {R : It → Hp → Prop} {E : Value → Shared → Prop} {lo hi : Int} {t u v : Tok} {tk : Nat} (I : Inv X pins σ H s) (h1 : -(2 ^ 62) ≤ lo) (h2 : lo < 2 ^ 62) (h3 : -(2 ^ 62) ≤ hi) (h4 : hi < 2 ^ 62)
    (q : R (Itr lo (hi - lo).toNat) H) : wpAny (model X.prog X.w) X.A (pyIter (.ref s.heap.objs.size)) (PIE X pins σ tg R) E { s with heap := s.heap.push { cls := .type "range", data := .fields #[.int lo t, .int hi u, .int 1 v] }, toks := tk } := by
  refine wpAny_pyIter_range (IsRange.new ..) (small_one h1 h2 h3 h4) ?_
  have I1 : Inv X pins σ H { s with heap := s.heap.push { cls := .type "range", data := .fields #[.int lo t, .int hi u, .int 1 v] }, toks := tk } := I.kept fun b o e => Heap.get?_push_of_some _ e
  refine ⟨(s.heap.push { cls := .type "range", data := .fields #[.int lo t, .int hi u, .int 1 v] }).objs.size, [(s.heap.push { cls := .type "range", data := .fields #[.int lo t, .int hi u, .int 1 v] }).objs.size], _, _, H, rfl,
    I1.kept (t' := tk) fun b o e => Heap.get?_push_of_some _ e, turn_range _ lo (hi - lo).toNat, ?_, fun b hb => ?_, q⟩
  · have e1 : lo + ((0 : Nat) : Int) * 1 = lo := by simp
    have e2 : (((hi - lo).toNat : Nat) : Int) - ((0 : Nat) : Int) = Builtin.Range.rangeSize lo hi 1 := by rw [rangeSize_one]; split <;> omega
    show IsRangeIter _ _ (lo + ((0 : Nat) : Int) * 1) ((((hi - lo).toNat : Nat) : Int) - ((0 : Nat) : Int)) 1
    rw [e1, e2]
    exact Heap.get?_push_size _ rfl
  · have e : b = (s.heap.push { cls := .type "range", data := .fields #[.int lo t, .int hi u, .int 1 v] }).objs.size := by simpa using hb
    subst e
    exact I1.fpOk (Nat.le_refl _) (I1.hok.fresh (Nat.le_refl _))
inductive I_iRng1 (vs : List V) (H1 : Hp) (R : It → Hp → Prop) : Prop where
  | mk (j : Int) (h0_ : vs = [.int j]) (h1_ : -(2 ^ 62) ≤ j) (h2_ : j < 2 ^ 62) (h3_ : R (Itr 0 j.toNat) H1) : I_iRng1 vs H1 R
def iRng1 (ta : TA) : TI := fun σ H R => ta σ H fun vs H1 => I_iRng1 vs H1 R
def iRng2 (ta : TA) : TI := fun σ H R => ta σ H fun vs H1 => ∃ i j : Int, vs = [.int i, .int j] ∧ (-(2 ^ 62) ≤ i ∧ i < 2 ^ 62 ∧ -(2 ^ 62) ≤ j ∧ j < 2 ^ 62) ∧ R (Itr i (j - i).toNat) H1
theorem pi_range1 {a : Expr} {ta : TA} {p pos : Pos} (hg : Gl X "range") (hm : X.mg "range" = none) (ha : PA X [a] ta) (hs : starEach [a] X.env = [(false, eval a X.env)] := by rfl) : PI X tg (.Call (.Name "range" p) [a] [] pos) (iRng1 ta) := by
  intro pins s σ H R I h
  refine Call_ (ld_blt I hg hm boot_range (PyProof.Rows.callWith_type1 (thn (ha pos pins s σ H _ I h) fun us s1 ⟨vs, H1, I1, r1, q1⟩ => ?_) hs rfl))
  obtain ⟨j, e, q1, q2, q⟩ := q1
  subst e
  cases r1 with
  | cons r rr =>
    cases rr
    obtain ⟨t, rfl⟩ := r
    exact call_range_1 (range_it I1 (by omega) (by omega) q1 q2 (by simpa using q))
theorem pi_range2 {a b : Expr} {ta : TA} {p pos : Pos} (hg : Gl X "range") (hm : X.mg "range" = none) (ha : PA X [a, b] ta) (hs : starEach [a, b] X.env = [(false, eval a X.env), (false, eval b X.env)] := by rfl) (hs2 : starEach [b] X.env = [(false, eval b X.env)] := by rfl) :
    PI X tg (.Call (.Name "range" p) [a, b] [] pos) (iRng2 ta) := by
  intro pins s σ H R I h
  refine Call_ (ld_blt I hg hm boot_range (PyProof.Rows.callWith_type1 (thn (ha pos pins s σ H _ I h) fun us s1 ⟨vs, H1, I1, r1, q1⟩ => ?_) (by rw [hs, hs2]) (by rw [hs2]; rfl)))
  obtain ⟨i, j, e, ⟨q1, q2, q3, q4⟩, q⟩ := q1
  subst e
  cases r1 with
  | cons r rr =>
    cases rr with
    | cons r' rr =>
      cases rr
      obtain ⟨t, rfl⟩ := r
      obtain ⟨t', rfl⟩ := r'
      exact call_range_2 (range_it I1 q1 q2 q3 q4 q)

/-! ### for -/
/-- W: the invariant by the turn and a measure; N: what the body is to reach -/
def tFor (wi : TI) (g : TG) (tb : TS) : TS := fun D σ H => wi σ H fun J H1 => ∃ W : Nat → Nat → St → Hp → Prop, (∃ m, W 0 m σ H1) ∧ ∀ i m σ H, W i m σ H →
  (J.stop i H ∧ D.nx σ H) ∨ (J.go i H ∧ ∃ N : St → Hp → Prop, (∀ σ' H', N σ' H' → ∃ m', m' < m ∧ W (i + 1) m' σ' H') ∧ ∀ x H', J.yld i H x H' → g x σ H' fun σ2 H2 => tb { D with nx := N, ct := N, bk := D.nx } σ2 H2)
/-- the records at fp as they stand -/
def pinsAt (fp : List Addr) (h : Heap) : List (Addr × Obj) := fp.filterMap fun b => (h.get? b).map fun o => (b, o)
theorem mem_pinsAt {fp : List Addr} {h : Heap} {b : Addr} {o : Obj} (hb : b ∈ fp) (e : h.get? b = some o) : (b, o) ∈ pinsAt fp h := List.mem_filterMap.mpr ⟨b, hb, by rw [e]; rfl⟩
theorem of_pinsAt {fp : List Addr} {h : Heap} {p : Addr × Obj} (hp : p ∈ pinsAt fp h) : p.1 ∈ fp ∧ h.get? p.1 = some p.2 := by
  obtain ⟨b, hb, e⟩ := List.mem_filterMap.mp hp
  cases q : h.get? b with
  | none => rw [q] at e; cases e
  | some o =>
    rw [q] at e
    have e' : (b, o) = p := Option.some.inj e
    subst e'
    exact ⟨hb, q⟩
theorem Inv.pinned {pins : List (Addr × Obj)} {σ : St} {H : Hp} {s : Shared} {fp : List Addr} (I : Inv X pins σ H s) (hf : ∀ b ∈ fp, FpOk X pins H b) (ho : ∀ b ∈ fp, ∃ o, s.heap.get? b = some o ∧ ∀ v, o.data ≠ .cell v) : Inv X (pins ++ pinsAt fp s.heap) σ H s :=
  I.pins_of fun p hp => (List.mem_append.mp hp).elim (fun z => I.pin p (List.mem_append_right _ z)) fun z => by
    obtain ⟨hb, e⟩ := of_pinsAt z
    obtain ⟨f0, f1, f2, _⟩ := hf p.1 hb
    obtain ⟨o, e', d⟩ := ho p.1 hb
    rw [e] at e'; cases e'
    exact ⟨e, f0, f1, f2, d⟩
theorem Inv.unpinned {pins pl : List (Addr × Obj)} {σ : St} {H : Hp} {s : Shared} (I : Inv X (pins ++ pl) σ H s) : Inv X pins σ H s := I.pins_of fun p hp => I.pin p (List.mem_append_right _ (List.mem_append_left _ hp))
theorem ps_for {iter : Expr} {body : List Stmt} {wi : TI} {g : TG} {tb : TS} {pos : Pos} (hp : PassesOwn (model X.prog X.w) X.A X.env X.xe) (hc : X.calm = true) (hi : PI X tg iter wi) (hg : PG X tg g) (hb : PSs X body tb)
    (hs : ∀ x, foldedSetIterable iter X.env x = pure x := by intro _; rfl) : PS X (.For tg iter body [] pos) (tFor wi g tb) := by
  intro pins s σ H D I h
  refine wpAny_For (thn (hi pins s σ H _ I h) fun v s1 h1 => thn h1 fun itv s2 h2 => ?_) hs
  obtain ⟨it, fp, tn, J, H2, e, I2, T, st2, f2, W, ⟨m0, w0⟩, turn⟩ := h2
  subst e
  -- what stays true of the iterator's objects through the loop
  have stat : ∀ {H' : Hp}, (∀ b ∈ fp, H' b = none) → ∀ b ∈ fp, FpOk X pins H' b := fun hn b hb => ⟨hn b hb, (f2 b hb).2⟩
  refine codeAny_forLoop_any (fun n s' => ∃ i σ' H', Inv X pins σ' H' s' ∧ tn i s'.heap ∧ (∀ b ∈ fp, H' b = none) ∧ W i n σ' H') ?_ m0 ⟨0, σ, H2, I2, st2, fun b hb => (f2 b hb).1, w0⟩
  rintro n s3 ⟨i, σ3, H3, I3, st3, fr3, w3⟩
  rcases turn i n σ3 H3 w3 with ⟨stop, qn⟩ | ⟨go, N, hN, step⟩
  · refine wpAny_passesOwn hp (thn (T.done X rfl rfl rfl hc i pins s3 σ3 H3 X.xe I3 (stat fr3) st3 stop) fun r s4 ⟨hr, I4⟩ => ?_)
    subst hr
    exact wpAny_execs_nil ⟨σ3, H3, I4, qn⟩
  · refine wpAny_passesOwn hp (thn (T.item X rfl rfl rfl hc i pins s3 σ3 H3 X.xe I3 (stat fr3) st3 go) fun r s4 ⟨u, hr, h4⟩ => ?_)
    subst hr
    refine wpAny_passesOwn hp (thn h4 fun _ s5 ⟨x, H5, I5, r5, y5, st5, fr5⟩ => ?_)
    have I5' := I5.pinned (stat fr5) (T.obj _ _ st5)
    refine wpAny_passesOwn hp (thn (hg _ s5 σ3 H5 x u _ I5' r5 (step x H5 y5)) fun _ s6 ⟨σ6, H6, I6, q6⟩ => ?_)
    refine wpAny_passesOwn hp (thn (hb _ s6 σ6 H6 _ I6 q6) fun f s7 q7 => ?_)
    have again : ∀ {σ7 : St} {H7 : Hp}, Inv X (pins ++ pinsAt fp s5.heap) σ7 H7 s7 → N σ7 H7 → ∃ m, m < n ∧ ∃ i σ' H', Inv X pins σ' H' s7 ∧ tn i s7.heap ∧ (∀ b ∈ fp, H' b = none) ∧ W i m σ' H' := fun {σ7 H7} I7 n7 => by
      obtain ⟨m', hm, w7⟩ := hN σ7 H7 n7
      refine ⟨m', hm, i + 1, σ7, H7, I7.unpinned, T.keep _ _ _ st5 fun b hb o e => (I7.pin (b, o) (List.mem_append_right _ (List.mem_append_right _ (mem_pinsAt hb e)))).1, fun b hb => ?_, w7⟩
      obtain ⟨o, e, d⟩ := T.obj _ _ st5 b hb
      exact (I7.pin (b, o) (List.mem_append_right _ (List.mem_append_right _ (mem_pinsAt hb e)))).2.1
    cases f with
    | next => obtain ⟨σ7, H7, I7, n7⟩ := q7; exact again I7 n7
    | cont => obtain ⟨σ7, H7, I7, n7⟩ := q7; exact again I7 n7
    | brk => obtain ⟨σ7, H7, I7, q7⟩ := q7; exact ⟨σ7, H7, I7.unpinned, q7⟩
    | ret v => obtain ⟨x7, σ7, H7, I7, r7, q7⟩ := q7; exact ⟨x7, σ7, H7, I7.unpinned, r7, q7⟩
end

/-! ### the forms one uses -/
/-- over a list that the body leaves as it is -/
theorem for_list {K : PySem.W.Frag} {a : Addr} {xs : List V} {g : TG} {tb : TS} {D : Ends} {σ : St} {H : Hp} (Pv : Nat → St → Hp → Prop) (h0 : Pv 0 σ H) (hl : ∀ i σ H, i ≤ xs.length → Pv i σ H → SqL K H a xs)
    (hs : ∀ i x σ H, xs[i]? = some x → Pv i σ H → g x σ H fun σ2 H2 => tb { D with nx := Pv (i + 1), ct := Pv (i + 1), bk := D.nx } σ2 H2) (hd : ∀ σ H, Pv xs.length σ H → D.nx σ H) :
    ∃ W : Nat → Nat → St → Hp → Prop, (∃ m, W 0 m σ H) ∧ ∀ i m σ H, W i m σ H →
      ((Itl K a).stop i H ∧ D.nx σ H) ∨ ((Itl K a).go i H ∧ ∃ N : St → Hp → Prop, (∀ σ' H', N σ' H' → ∃ m', m' < m ∧ W (i + 1) m' σ' H') ∧ ∀ x H', (Itl K a).yld i H x H' → g x σ H' fun σ2 H2 => tb { D with nx := N, ct := N, bk := D.nx } σ2 H2) := by
  refine ⟨fun i m σ H => m = xs.length - i ∧ i ≤ xs.length ∧ Pv i σ H, ⟨xs.length, by simp, Nat.zero_le _, h0⟩, ?_⟩
  rintro i m σ H ⟨rfl, hi, p⟩
  have q := hl i σ H hi p
  by_cases hlt : i < xs.length
  · refine .inr ⟨⟨xs, xs[i], q, by simp [hlt]⟩, Pv (i + 1), fun σ' H' p' => ⟨xs.length - (i + 1), by omega, rfl, hlt, p'⟩, fun x H' y => ?_⟩
    obtain ⟨e, y⟩ := y
    subst e
    exact hs i x σ _ (y xs q) p
  · have e : i = xs.length := by omega
    subst e
    exact .inl ⟨⟨xs, q, Nat.le_refl _⟩, hd σ H p⟩
theorem for_tup {K : PySem.W.Frag} {a : Addr} {xs : List V} {g : TG} {tb : TS} {D : Ends} {σ : St} {H : Hp} (Pv : Nat → St → Hp → Prop) (h0 : Pv 0 σ H) (hl : ∀ i σ H, i ≤ xs.length → Pv i σ H → SqT K H a xs)
    (hs : ∀ i x σ H, xs[i]? = some x → Pv i σ H → g x σ H fun σ2 H2 => tb { D with nx := Pv (i + 1), ct := Pv (i + 1), bk := D.nx } σ2 H2) (hd : ∀ σ H, Pv xs.length σ H → D.nx σ H) :
    ∃ W : Nat → Nat → St → Hp → Prop, (∃ m, W 0 m σ H) ∧ ∀ i m σ H, W i m σ H →
      ((Itt K a).stop i H ∧ D.nx σ H) ∨ ((Itt K a).go i H ∧ ∃ N : St → Hp → Prop, (∀ σ' H', N σ' H' → ∃ m', m' < m ∧ W (i + 1) m' σ' H') ∧ ∀ x H', (Itt K a).yld i H x H' → g x σ H' fun σ2 H2 => tb { D with nx := N, ct := N, bk := D.nx } σ2 H2) := by
  refine ⟨fun i m σ H => m = xs.length - i ∧ i ≤ xs.length ∧ Pv i σ H, ⟨xs.length, by simp, Nat.zero_le _, h0⟩, ?_⟩
  rintro i m σ H ⟨rfl, hi, p⟩
  have q := hl i σ H hi p
  by_cases hlt : i < xs.length
  · refine .inr ⟨⟨xs, xs[i], q, by simp [hlt]⟩, Pv (i + 1), fun σ' H' p' => ⟨xs.length - (i + 1), by omega, rfl, hlt, p'⟩, fun x H' y => ?_⟩
    obtain ⟨e, y⟩ := y
    subst e
    exact hs i x σ _ (y xs q) p
  · have e : i = xs.length := by omega
    subst e
    exact .inl ⟨⟨xs, q, Nat.le_refl _⟩, hd σ H p⟩
theorem for_range {lo : Int} {n : Nat} {g : TG} {tb : TS} {D : Ends} {σ : St} {H : Hp} (Pv : Nat → St → Hp → Prop) (h0 : Pv 0 σ H)
    (hs : ∀ i σ H, i < n → Pv i σ H → g (.int (lo + i)) σ H fun σ2 H2 => tb { D with nx := Pv (i + 1), ct := Pv (i + 1), bk := D.nx } σ2 H2) (hd : ∀ σ H, Pv n σ H → D.nx σ H) :
    ∃ W : Nat → Nat → St → Hp → Prop, (∃ m, W 0 m σ H) ∧ ∀ i m σ H, W i m σ H →
      ((Itr lo n).stop i H ∧ D.nx σ H) ∨ ((Itr lo n).go i H ∧ ∃ N : St → Hp → Prop, (∀ σ' H', N σ' H' → ∃ m', m' < m ∧ W (i + 1) m' σ' H') ∧ ∀ x H', (Itr lo n).yld i H x H' → g x σ H' fun σ2 H2 => tb { D with nx := N, ct := N, bk := D.nx } σ2 H2) := by
  refine ⟨fun i m σ H => m = n - i ∧ i ≤ n ∧ Pv i σ H, ⟨n, by simp, Nat.zero_le _, h0⟩, ?_⟩
  rintro i m σ H ⟨rfl, hi, p⟩
  by_cases hlt : i < n
  · refine .inr ⟨hlt, Pv (i + 1), fun σ' H' p' => ⟨n - (i + 1), by omega, rfl, hlt, p'⟩, fun x H' y => ?_⟩
    obtain ⟨e, y⟩ := y
    subst e y
    exact hs i σ _ hlt p
  · have e : i = n := by omega
    subst e
    exact .inl ⟨Nat.le_refl _, hd σ H p⟩
/-- while, by a word and a measure of the state -/
theorem while_by {c : TT} {tb : TS} {D : Ends} {σ : St} {H : Hp} (Pv : St → Hp → Prop) (μ : St → Hp → Nat) (h0 : Pv σ H)
    (hs : ∀ σ H, Pv σ H → c σ H fun b H1 => if b = true then tb { D with nx := fun σ' H' => Pv σ' H' ∧ μ σ' H' < μ σ H, ct := fun σ' H' => Pv σ' H' ∧ μ σ' H' < μ σ H, bk := D.nx } σ H1 else D.nx σ H1)
    (mono : ∀ σ H Q Q', (∀ b H1, Q b H1 → Q' b H1) → c σ H Q → c σ H Q') : tWhile c tb D σ H := by
  refine ⟨fun m σ H => m = μ σ H ∧ Pv σ H, ⟨_, rfl, h0⟩, ?_⟩
  rintro m σ H ⟨rfl, p⟩
  refine mono σ H _ _ (fun b H1 q => ?_) (hs σ H p)
  cases b with
  | true => exact ⟨_, fun σ' H' ⟨p', l⟩ => ⟨_, l, rfl, p'⟩, q⟩
  | false => exact q
end L2

namespace L2
open PySem PySem.Spec PyProof.Rows

abbrev R2 := V → V → Hp → VK → Prop
/-- a two-place operation on values: f is binaryOp op, inplaceOp op or compareOp op -/
def OpR (X : Cx) (f : Value → Value → Sem Value) (r : R2) : Prop :=
  ∀ (pins : List (Addr × Obj)) (s : Shared) (σ : St) (H : Hp) (x y : V) (v u : Value) (Q : VK), Inv X pins σ H s → RelV x v → RelV y u → r x y H Q →
    wpAny (model X.prog X.w) X.A (f v u) (EP X pins σ Q) X.xe s
/-- a one-place operation -/
def UnR (X : Cx) (f : Value → Sem Value) (r : V → Hp → VK → Prop) : Prop :=
  ∀ (pins : List (Addr × Obj)) (s : Shared) (σ : St) (H : Hp) (x : V) (v : Value) (Q : VK), Inv X pins σ H s → RelV x v → r x H Q →
    wpAny (model X.prog X.w) X.A (f v) (EP X pins σ Q) X.xe s
/-- a call of a value that is known (a builtin, a type) with values -/
def CallR (X : Cx) (f : Value) (r : List V → Hp → VK → Prop) : Prop :=
  ∀ (pins : List (Addr × Obj)) (s : Shared) (σ : St) (H : Hp) (xs : List V) (us : List Value) (Q : VK), Inv X pins σ H s → Vals xs us → r xs H Q →
    wpAny (model X.prog X.w) X.A (call f us) (EP X pins σ Q) X.xe s
/-- a value's truth -/
def TruR (X : Cx) (r : V → Hp → (Bool → Hp → Prop) → Prop) : Prop :=
  ∀ (pins : List (Addr × Obj)) (s : Shared) (σ : St) (H : Hp) (x : V) (v : Value) (Q : Bool → Hp → Prop), Inv X pins σ H s → RelV x v → r x H Q →
    wpAny (model X.prog X.w) X.A (truthy v) (TP X pins σ Q) X.xe s

def tOp (r : R2) (ta tb : TE) : TE := fun σ H Q => ta σ H fun x H1 => tb σ H1 fun y H2 => r x y H2 Q
def tUn (r : V → Hp → VK → Prop) (ta : TE) : TE := fun σ H Q => ta σ H fun x H1 => r x H1 Q
/-- ints in, under C, and a value out -/
inductive I_rI (C : Int → Int → Prop) (g : Int → Int → V) (x y : V) (H : Hp) (Q : VK) : Prop where
  | mk (i j : Int) (h0_ : x = .int i) (h1_ : y = .int j) (h2_ : C i j) (h3_ : Q (g i j) H) : I_rI C g x y H Q
def rI (C : Int → Int → Prop) (g : Int → Int → V) : R2 := fun x y H Q => I_rI C g x y H Q
inductive I_rI0 (g : Int → Int → V) (x y : V) (H : Hp) (Q : VK) : Prop where
  | mk (i j : Int) (h0_ : x = .int i) (h1_ : y = .int j) (h2_ : Q (g i j) H) : I_rI0 g x y H Q
def rI0 (g : Int → Int → V) : R2 := fun x y H Q => I_rI0 g x y H Q
inductive I_rU (g : Int → V) (x : V) (H : Hp) (Q : VK) : Prop where
  | mk (i : Int) (h0_ : x = .int i) (h1_ : Q (g i) H) : I_rU g x H Q
def rU (g : Int → V) : V → Hp → VK → Prop := fun x H Q => I_rU g x H Q

section
variable {X : Cx} {a b c : Expr} {ta tb tc : TE} {pos : Pos}

theorem binT (ha : PE X a ta) (hb : PE X b tb) {pins : List (Addr × Obj)} {s : Shared} {σ : St} {H : Hp} {R : V → V → Hp → Prop} (I : Inv X pins σ H s)
    (h : ta σ H fun x H1 => tb σ H1 fun y H2 => R x y H2) {Q : Value → Shared → Prop} {f : Value → Value → Sem Value}
    (hf : ∀ v u s2 x y H2, Inv X pins σ H2 s2 → RelV x v → RelV y u → R x y H2 → wpAny (model X.prog X.w) X.A (f v u) Q X.xe s2) :
    wpAny (model X.prog X.w) X.A (eval a X.env) (fun v s₁ => wpAny (model X.prog X.w) X.A (eval b X.env) (fun u s₂ => wpAny (model X.prog X.w) X.A (f v u) Q X.xe s₂) X.xe s₁) X.xe s := by
  refine thn (ha pins s σ H _ I h) fun v s1 ⟨x, H1, I1, r1, q1⟩ => ?_
  refine thn (hb pins s1 σ H1 _ I1 q1) fun u s2 ⟨y, H2, I2, r2, q2⟩ => ?_
  exact hf v u s2 x y H2 I2 r1 r2 q2

theorem pe_op {op : Operator} {r : R2} (ho : OpR X (binaryOp op) r) (ha : PE X a ta) (hb : PE X b tb) : PE X (.BinOp a op b pos) (tOp r ta tb) := by
  intro pins s σ H Q I h
  exact wpAny_BinOp (binT ha hb I h fun v u s2 x y H2 I2 rx ry q => ho pins s2 σ H2 x y v u Q I2 rx ry q)
theorem pe_un {op : UnaryOp} {r : V → Hp → VK → Prop} (ho : UnR X (unaryOp op) r) (ha : PE X a ta) : PE X (.UnaryOp op a pos) (tUn r ta) := by
  intro pins s σ H Q I h
  exact UnaryOp_ (thn (ha pins s σ H _ I h) fun v s1 ⟨x, H1, I1, r1, q1⟩ => ho pins s1 σ H1 x v Q I1 r1 q1)
/-- a op= e at a name: the name's slot i -/
theorem augR {op : Operator} {r : R2} (ho : OpR X (inplaceOp op) r) {pins : List (Addr × Obj)} {s : Shared} {σ : St} {H : Hp} {x y : V} {v u : Value} {Q : VK} (I : Inv X pins σ H s)
    (rx : RelV x v) (ry : RelV y u) (q : r x y H Q) : wpAny (model X.prog X.w) X.A (inplaceOp op v u) (EP X pins σ Q) X.xe s := ho pins s σ H x y v u Q I rx ry q

/-! ### ints -/
theorem opI {f : Value → Value → Sem Value} {C : Int → Int → Prop} {g : Int → Int → Int}
    (rule : ∀ (i j : Int) (t u : Tok) (s : Shared) (Q : Value → Shared → Prop) (E : Value → Shared → Prop), C i j → Q (.int (g i j) s.toks) { s with toks := s.toks + 1 } → wpAny (model X.prog X.w) X.A (f (.int i t) (.int j u)) Q E s) :
    OpR X f (rI C fun i j => .int (g i j)) := by
  intro pins s σ H x y v u Q I rx ry h
  obtain ⟨i, j, rfl, rfl, hc, q⟩ := h
  obtain ⟨t, rfl⟩ := rx
  obtain ⟨t', rfl⟩ := ry
  exact rule i j t t' s _ _ hc ⟨.int (g i j), H, I.tok _, ⟨_, rfl⟩, q⟩
theorem opI0 {f : Value → Value → Sem Value} {g : Int → Int → Int}
    (rule : ∀ (i j : Int) (t u : Tok) (s : Shared) (Q : Value → Shared → Prop) (E : Value → Shared → Prop), Q (.int (g i j) s.toks) { s with toks := s.toks + 1 } → wpAny (model X.prog X.w) X.A (f (.int i t) (.int j u)) Q E s) :
    OpR X f (rI0 fun i j => .int (g i j)) := by
  intro pins s σ H x y v u Q I rx ry h
  obtain ⟨i, j, rfl, rfl, q⟩ := h
  obtain ⟨t, rfl⟩ := rx
  obtain ⟨t', rfl⟩ := ry
  exact rule i j t t' s _ _ ⟨.int (g i j), H, I.tok _, ⟨_, rfl⟩, q⟩
theorem opB0 {f : Value → Value → Sem Value} {g : Int → Int → Bool}
    (rule : ∀ (i j : Int) (t u : Tok) (s : Shared) (Q : Value → Shared → Prop) (E : Value → Shared → Prop), Q (.bool (g i j)) s → wpAny (model X.prog X.w) X.A (f (.int i t) (.int j u)) Q E s) :
    OpR X f (rI0 fun i j => .bl (g i j)) := by
  intro pins s σ H x y v u Q I rx ry h
  obtain ⟨i, j, rfl, rfl, q⟩ := h
  obtain ⟨t, rfl⟩ := rx
  obtain ⟨t', rfl⟩ := ry
  exact rule i j t t' s _ _ ⟨.bl (g i j), H, I, rfl, q⟩

def CDiv (i j : Int) : Prop := 0 < j ∧ j < 1073741824
def CDivN (i j : Int) : Prop := j ≠ 0 ∧ j.natAbs < 1073741824
def CPow (i j : Int) : Prop := 0 ≤ j ∧ j ≤ 1000000 ∧ i.natAbs < 2 ^ 64
def CMul (i j : Int) : Prop := (-(2 ^ 64) < i ∧ i < 2 ^ 64) ∨ (-(2 ^ 64) < j ∧ j < 2 ^ 64)
theorem CMul.ok {i j : Int} (h : CMul i j) : IntMulOk i j := by
  rcases h with ⟨h1, h2⟩ | ⟨h1, h2⟩
  · exact .of_left (intBits_le_64 h1 h2)
  · exact .of_right (intBits_le_64 h1 h2)
theorem two_pow_nn (k : Nat) : (0 : Int) ≤ 2 ^ k := by
  rw [two_pow_cast]
  exact Int.natCast_nonneg _

theorem op_add : OpR X (binaryOp .Add) (rI0 fun i j => .int (i + j)) := opI0 fun _ _ _ _ _ _ _ q => add_int q
theorem op_sub : OpR X (binaryOp .Sub) (rI0 fun i j => .int (i - j)) := opI0 fun _ _ _ _ _ _ _ q => sub_int q
theorem op_mul : OpR X (binaryOp .Mult) (rI CMul fun i j => .int (i * j)) := opI fun _ _ _ _ _ _ _ hc q => mul_int q hc.ok
/-- // by a positive divisor -/
theorem op_fdiv : OpR X (binaryOp .FloorDiv) (rI CDiv fun i j => .int (i / j)) := opI fun i j _ _ _ _ _ hc q => by
  have h1 : (0 : Int) < j := hc.1
  have h2 : j < 1073741824 := hc.2
  exact floordiv_int (by omega) (by rw [Int.fdiv_eq_ediv_of_nonneg i (by omega)]; exact q) (.inl (PyProof.noPylong_small (by omega)))
theorem op_fdivN : OpR X (binaryOp .FloorDiv) (rI CDivN fun i j => .int (i.fdiv j)) := opI fun _ _ _ _ _ _ _ hc q => floordiv_int hc.1 q (.inl (PyProof.noPylong_small hc.2))
/-- % by a positive divisor of any size -/
theorem op_mod : OpR X (binaryOp .Mod) (rI (fun _ j => 0 < j) fun i j => .int (i % j)) := opI fun i j _ _ _ _ _ hc q => by
  have h1 : (0 : Int) < j := hc
  exact mod_int' (by omega) (by rw [Int.fmod_eq_emod_of_nonneg i (by omega)]; exact q)
theorem op_modN : OpR X (binaryOp .Mod) (rI (fun _ j => j ≠ 0) fun i j => .int (i.fmod j)) := opI fun _ _ _ _ _ _ _ hc q => mod_int' hc q
theorem op_pow : OpR X (binaryOp .Pow) (rI CPow fun i j => .int (i ^ j.toNat)) := opI fun _ _ _ _ _ _ _ hc q => pow_int_small hc.1 hc.2.1 hc.2.2 q
theorem op_shl : OpR X (binaryOp .LShift) (rI CPow fun i j => .int (i * 2 ^ j.toNat)) := opI fun _ _ _ _ _ _ _ hc q => lshift_int_small hc.1 hc.2.1 hc.2.2 q
theorem op_shr : OpR X (binaryOp .RShift) (rI (fun _ j => 0 ≤ j) fun i j => .int (i / 2 ^ j.toNat)) := opI fun i j _ _ _ _ _ hc q =>
  rshift_int hc (by rw [Int.fdiv_eq_ediv_of_nonneg i (two_pow_nn _)]; exact q)
theorem op_and : OpR X (binaryOp .BitAnd) (rI0 fun i j => .int (Builtin.bitAnd i j)) := opI0 fun _ _ _ _ _ _ _ q => and_int q
theorem op_or : OpR X (binaryOp .BitOr) (rI0 fun i j => .int (Builtin.bitOr i j)) := opI0 fun _ _ _ _ _ _ _ q => or_int q
theorem op_xor : OpR X (binaryOp .BitXor) (rI0 fun i j => .int (Builtin.bitXor i j)) := opI0 fun _ _ _ _ _ _ _ q => xor_int q

theorem iop_add : OpR X (inplaceOp .Add) (rI0 fun i j => .int (i + j)) := opI0 fun _ _ _ _ _ _ _ q => iadd_int q
theorem iop_sub : OpR X (inplaceOp .Sub) (rI0 fun i j => .int (i - j)) := opI0 fun _ _ _ _ _ _ _ q => isub_int q
theorem iop_mul : OpR X (inplaceOp .Mult) (rI CMul fun i j => .int (i * j)) := opI fun _ _ _ _ _ _ _ hc q => imul_int q hc.ok
theorem iop_fdiv : OpR X (inplaceOp .FloorDiv) (rI CDiv fun i j => .int (i / j)) := opI fun i j _ _ _ _ _ hc q => by
  have h1 : (0 : Int) < j := hc.1
  have h2 : j < 1073741824 := hc.2
  exact ifloordiv_int (by omega) (by rw [Int.fdiv_eq_ediv_of_nonneg i (by omega)]; exact q) (.inl (PyProof.noPylong_small (by omega)))
theorem iop_mod : OpR X (inplaceOp .Mod) (rI (fun _ j => 0 < j) fun i j => .int (i % j)) := opI fun i j _ _ _ _ _ hc q => by
  have h1 : (0 : Int) < j := hc
  exact imod_int (by omega) (by rw [Int.fmod_eq_emod_of_nonneg i (by omega)]; exact q)
theorem iop_shl : OpR X (inplaceOp .LShift) (rI CPow fun i j => .int (i * 2 ^ j.toNat)) := opI fun _ _ _ _ _ _ _ hc q => ilshift_int_small hc.1 hc.2.1 hc.2.2 q
theorem iop_shr : OpR X (inplaceOp .RShift) (rI (fun _ j => 0 ≤ j) fun i j => .int (i / 2 ^ j.toNat)) := opI fun i j _ _ _ _ _ hc q =>
  irshift_int hc (by rw [Int.fdiv_eq_ediv_of_nonneg i (two_pow_nn _)]; exact q)
theorem iop_and : OpR X (inplaceOp .BitAnd) (rI0 fun i j => .int (Builtin.bitAnd i j)) := opI0 fun _ _ _ _ _ _ _ q => iand_int q
theorem iop_or : OpR X (inplaceOp .BitOr) (rI0 fun i j => .int (Builtin.bitOr i j)) := opI0 fun _ _ _ _ _ _ _ q => ior_int q
theorem iop_xor : OpR X (inplaceOp .BitXor) (rI0 fun i j => .int (Builtin.bitXor i j)) := opI0 fun _ _ _ _ _ _ _ q => ixor_int q

theorem unI {f : Value → Sem Value} {g : Int → Int}
    (rule : ∀ (i : Int) (t : Tok) (s : Shared) (Q : Value → Shared → Prop) (E : Value → Shared → Prop), Q (.int (g i) s.toks) { s with toks := s.toks + 1 } → wpAny (model X.prog X.w) X.A (f (.int i t)) Q E s) :
    UnR X f (rU fun i => .int (g i)) := by
  intro pins s σ H x v Q I rx h
  obtain ⟨i, rfl, q⟩ := h
  obtain ⟨t, rfl⟩ := rx
  exact rule i t s _ _ ⟨.int (g i), H, I.tok _, ⟨_, rfl⟩, q⟩
theorem un_neg : UnR X (unaryOp .USub) (rU fun i => .int (-i)) := unI fun _ _ _ _ _ q => neg_int q
theorem un_inv : UnR X (unaryOp .Invert) (rU fun i => .int (Builtin.bitNot i)) := unI fun _ _ _ _ _ q => invert_int q

/-! ### bools among ints: n += (a < b) -/
theorem op_add_ib : OpR X (binaryOp .Add) (fun x y H Q => ∃ i k, x = .int i ∧ y = .bl k ∧ Q (.int (i + b2i k)) H) := by
  intro pins s σ H x y v u Q I rx ry h
  obtain ⟨i, k, rfl, rfl, q⟩ := h
  obtain ⟨t, rfl⟩ := rx
  cases ry
  exact add_int_bool ⟨.int (i + b2i k), H, I.tok _, ⟨_, rfl⟩, q⟩
end

/-! ### comparisons -/
/-- the scalars that == tells apart as data does -/
def scal : V → V → Bool
  | .non, .non => true | .non, .int _ => true | .int _, .non => true | .non, .bl _ => true | .bl _, .non => true | .non, .str _ => true | .str _, .non => true
  | .int _, .int _ => true | .bl _, .bl _ => true | .str _, .str _ => true | .byt _, .byt _ => true
  | .int _, .str _ => true | .str _, .int _ => true | .bl _, .str _ => true | .str _, .bl _ => true
  | _, _ => false
def rEq : R2 := fun x y H Q => scal x y = true ∧ Q (.bl (decide (x = y))) H
def rNe : R2 := fun x y H Q => scal x y = true ∧ Q (.bl (!decide (x = y))) H

theorem dec_int {i j : Int} : decide (V.int i = V.int j) = (i == j) := by
  rw [Bool.eq_iff_iff]
  simp
theorem dec_bl {i j : Bool} : decide (V.bl i = V.bl j) = (i == j) := by
  rw [Bool.eq_iff_iff]
  simp
theorem dec_str {i j : Str} : decide (V.str i = V.str j) = (i == j) := by
  rw [Bool.eq_iff_iff]
  simp
theorem dec_byt {i j : Array UInt8} : decide (V.byt i = V.byt j) = (i.toList == j.toList) := by
  rw [Bool.eq_iff_iff]
  cases i
  cases j
  simp

section
variable {X : Cx} {a b c : Expr} {ta tb tc : TE} {pos : Pos}
theorem fin_bl {pins : List (Addr × Obj)} {σ : St} {H : Hp} {s : Shared} {Q : VK} {k k' : Bool} (I : Inv X pins σ H s) (q : Q (.bl k) H) (e : k = k') : EP X pins σ Q (.bool k') s := by
  subst e
  exact ⟨.bl k, H, I, rfl, q⟩
theorem op_eq : OpR X (compareOp .Eq) rEq := by
  intro pins s σ H x y v u Q I rx ry h
  obtain ⟨hs, q⟩ := h
  cases x with
  | non =>
    cases rx
    cases y with
    | non => cases ry; exact PySem.EqNone.eq_none_none (fin_bl I q (by simp))
    | bl j => cases ry; exact PySem.EqNone.eq_none_bool (fin_bl I q (by simp))
    | int j => obtain ⟨t', rfl⟩ := ry; exact PySem.EqNone.eq_none_int (fin_bl I q (by simp))
    | str j => obtain ⟨t', rfl⟩ := ry; exact PySem.EqNone.eq_none_str (fin_bl I q (by simp))
    | _ => exact absurd (show false = true from hs) Bool.false_ne_true
  | bl i =>
    cases rx
    cases y with
    | non => cases ry; exact PySem.EqNone.eq_bool_none (fin_bl I q (by simp))
    | bl j => cases ry; exact eq_bool (fin_bl I q dec_bl)
    | str j => obtain ⟨t', rfl⟩ := ry; exact PySem.EqMixed.eq_bool_str (fin_bl I q (by simp))
    | _ => exact absurd (show false = true from hs) Bool.false_ne_true
  | int i =>
    obtain ⟨t, rfl⟩ := rx
    cases y with
    | non => cases ry; exact PySem.EqNone.eq_int_none (fin_bl I q (by simp))
    | int j => obtain ⟨t', rfl⟩ := ry; exact eq_int (fin_bl I q dec_int)
    | str j => obtain ⟨t', rfl⟩ := ry; exact PySem.EqMixed.eq_int_str (fin_bl I q (by simp))
    | _ => exact absurd (show false = true from hs) Bool.false_ne_true
  | str i =>
    obtain ⟨t, rfl⟩ := rx
    cases y with
    | non => cases ry; exact PySem.EqNone.eq_str_none (fin_bl I q (by simp))
    | bl j => cases ry; exact PySem.EqMixed.eq_str_bool (fin_bl I q (by simp))
    | int j => obtain ⟨t', rfl⟩ := ry; exact PySem.EqMixed.eq_str_int (fin_bl I q (by simp))
    | str j => obtain ⟨t', rfl⟩ := ry; exact eq_str (fin_bl I q dec_str)
    | _ => exact absurd (show false = true from hs) Bool.false_ne_true
  | byt i =>
    obtain ⟨t, rfl⟩ := rx
    cases y with
    | byt j => obtain ⟨t', rfl⟩ := ry; exact PySem.W.eq_bytes (fin_bl I q dec_byt)
    | _ => exact absurd (show false = true from hs) Bool.false_ne_true
  | _ => cases y <;> exact absurd (show false = true from hs) Bool.false_ne_true
theorem op_ne : OpR X (compareOp .NotEq) rNe := by
  intro pins s σ H x y v u Q I rx ry h
  obtain ⟨hs, q⟩ := h
  cases x with
  | non =>
    cases rx
    cases y with
    | non => cases ry; exact PySem.EqNone.ne_none_none (fin_bl I q (by simp))
    | bl j => cases ry; exact PySem.EqNone.ne_none_bool (fin_bl I q (by simp))
    | int j => obtain ⟨t', rfl⟩ := ry; exact PySem.EqNone.ne_none_int (fin_bl I q (by simp))
    | str j => obtain ⟨t', rfl⟩ := ry; exact PySem.EqNone.ne_none_str (fin_bl I q (by simp))
    | _ => exact absurd (show false = true from hs) Bool.false_ne_true
  | bl i =>
    cases rx
    cases y with
    | non => cases ry; exact PySem.EqNone.ne_bool_none (fin_bl I q (by simp))
    | bl j => cases ry; exact ne_bool (fin_bl I q (congrArg not dec_bl))
    | str j => obtain ⟨t', rfl⟩ := ry; exact PySem.EqMixed.ne_bool_str (fin_bl I q (by simp))
    | _ => exact absurd (show false = true from hs) Bool.false_ne_true
  | int i =>
    obtain ⟨t, rfl⟩ := rx
    cases y with
    | non => cases ry; exact PySem.EqNone.ne_int_none (fin_bl I q (by simp))
    | int j => obtain ⟨t', rfl⟩ := ry; exact ne_int (fin_bl I q (congrArg not dec_int))
    | str j => obtain ⟨t', rfl⟩ := ry; exact PySem.EqMixed.ne_int_str (fin_bl I q (by simp))
    | _ => exact absurd (show false = true from hs) Bool.false_ne_true
  | str i =>
    obtain ⟨t, rfl⟩ := rx
    cases y with
    | non => cases ry; exact PySem.EqNone.ne_str_none (fin_bl I q (by simp))
    | bl j => cases ry; exact PySem.EqMixed.ne_str_bool (fin_bl I q (by simp))
    | int j => obtain ⟨t', rfl⟩ := ry; exact PySem.EqMixed.ne_str_int (fin_bl I q (by simp))
    | str j => obtain ⟨t', rfl⟩ := ry; exact ne_str (fin_bl I q (congrArg not dec_str))
    | _ => exact absurd (show false = true from hs) Bool.false_ne_true
  | byt i =>
    obtain ⟨t, rfl⟩ := rx
    cases y with
    | byt j => obtain ⟨t', rfl⟩ := ry; exact PySem.W.ne_bytes (fin_bl I q (congrArg not dec_byt))
    | _ => exact absurd (show false = true from hs) Bool.false_ne_true
  | _ => cases y <;> exact absurd (show false = true from hs) Bool.false_ne_true

theorem op_lt : OpR X (compareOp .Lt) (rI0 fun i j => .bl (decide (i < j))) := opB0 fun _ _ _ _ _ _ _ q => lt_int q
theorem op_le : OpR X (compareOp .LtE) (rI0 fun i j => .bl (decide (i ≤ j))) := opB0 fun _ _ _ _ _ _ _ q => le_int q
theorem op_gt : OpR X (compareOp .Gt) (rI0 fun i j => .bl (decide (j < i))) := opB0 fun _ _ _ _ _ _ _ q => gt_int q
theorem op_ge : OpR X (compareOp .GtE) (rI0 fun i j => .bl (decide (j ≤ i))) := opB0 fun _ _ _ _ _ _ _ q => ge_int q
theorem op_lt_str : OpR X (compareOp .Lt) (fun x y H Q => ∃ i j, x = .str i ∧ y = .str j ∧ Q (.bl (decide (i.cps.toList < j.cps.toList))) H) := by
  intro pins s σ H x y v u Q I rx ry h
  obtain ⟨i, j, rfl, rfl, q⟩ := h
  obtain ⟨t, rfl⟩ := rx
  obtain ⟨t', rfl⟩ := ry
  exact lt_str (fin_bl I q rfl)
/-- the one string within the other -/
theorem op_in_str : OpR X (compareOp .In) (fun x y H Q => ∃ i j, x = .str i ∧ y = .str j ∧ Q (.bl (!(Builtin.Str.occurrences j i 0 j.length 1).isEmpty)) H) := by
  intro pins s σ H x y v u Q I rx ry h
  obtain ⟨i, j, rfl, rfl, q⟩ := h
  obtain ⟨t, rfl⟩ := rx
  obtain ⟨t', rfl⟩ := ry
  exact in_str (fin_bl I q rfl)

/-- is None, is not None: the right side a value none -/
theorem op_isN : OpR X (compareOp .Is) (fun x y H Q => y = .non ∧ Q (.bl (decide (x = .non))) H) := by
  intro pins s σ H x y v u Q I rx ry h
  obtain ⟨rfl, q⟩ := h
  cases ry
  refine is_none_gen (fin_bl I q ?_)
  cases x <;> first
    | (cases rx; rfl)
    | (obtain ⟨t, rfl⟩ := rx; rfl)
theorem op_notN : OpR X (compareOp .IsNot) (fun x y H Q => y = .non ∧ Q (.bl (!decide (x = .non))) H) := by
  intro pins s σ H x y v u Q I rx ry h
  obtain ⟨rfl, q⟩ := h
  cases ry
  refine isnot_none_gen (fin_bl I q ?_)
  cases x <;> first
    | (cases rx; rfl)
    | (obtain ⟨t, rfl⟩ := rx; rfl)

theorem op_notin_str : OpR X (compareOp .NotIn) (fun x y H Q => ∃ i j, x = .str i ∧ y = .str j ∧ Q (.bl (!(!(Builtin.Str.occurrences j i 0 j.length 1).isEmpty))) H) := by
  intro pins s σ H x y v u Q I rx ry h
  obtain ⟨i, j, rfl, rfl, q⟩ := h
  obtain ⟨t, rfl⟩ := rx
  obtain ⟨t', rfl⟩ := ry
  exact notIn_str (fin_bl I q rfl)
/-- is, is not of two objects that are tracked lists or instances -/
def isObj : HO → Bool
  | .lst _ => true
  | .ins _ _ _ => true
  | _ => false
theorem obj_there {pins : List (Addr × Obj)} {s : Shared} {σ : St} {H : Hp} {a : Addr} {o : HO} (I : Inv X pins σ H s) (h : H a = some o) (p : isObj o = true) : ∃ ob, s.heap.get? a = some ob ∧ ob.cls ≠ .type "tuple" := by
  cases o with
  | lst xs =>
    obtain ⟨_, its, n, _, e⟩ : xs.length ≤ sizeLine ∧ ∃ (its : List Value) (n : Nat), Vals xs its ∧ s.heap.get? a = some { cls := .type "list", data := .seq its.toArray n } := I.hok a _ h
    exact ⟨_, e, (by show Value.type "list" ≠ .type "tuple"; decide +kernel)⟩
  | ins C dx fs =>
    have x := I.hok a _ h
    obtain ⟨_, _, _, e, _⟩ := x
    exact ⟨_, e, (by show Value.ref C ≠ .type "tuple"; exact fun z => by cases z)⟩
  | _ => exact absurd (show false = true from p) Bool.false_ne_true
theorem op_is_ref : OpR X (compareOp .Is) (fun x y H Q => ∃ a b oa ob, x = .ref a ∧ y = .ref b ∧ H a = some oa ∧ isObj oa = true ∧ H b = some ob ∧ isObj ob = true ∧ Q (.bl (decide (a = b))) H) := by
  intro pins s σ H x y v u Q I rx ry h
  obtain ⟨a, b, oa, ob, rfl, rfl, ha, pa, hb, pb, q⟩ := h
  cases rx
  cases ry
  obtain ⟨o1, e1, n1⟩ := obj_there I ha pa
  obtain ⟨o2, e2, _⟩ := obj_there I hb pb
  by_cases z : a = b
  · subst z
    exact wpAny_is_ref_self (fin_bl I q (by simp))
  · exact wpAny_is_ref_other z e1 e2 n1 (fin_bl I q (by simp [z]))
theorem op_isnot_ref : OpR X (compareOp .IsNot) (fun x y H Q => ∃ a b oa ob, x = .ref a ∧ y = .ref b ∧ H a = some oa ∧ isObj oa = true ∧ H b = some ob ∧ isObj ob = true ∧ Q (.bl (!decide (a = b))) H) := by
  intro pins s σ H x y v u Q I rx ry h
  obtain ⟨a, b, oa, ob, rfl, rfl, ha, pa, hb, pb, q⟩ := h
  cases rx
  cases ry
  obtain ⟨o1, e1, n1⟩ := obj_there I ha pa
  obtain ⟨o2, e2, _⟩ := obj_there I hb pb
  by_cases z : a = b
  · subst z
    exact wpAny_isNot_ref_self (fin_bl I q (by simp))
  · exact wpAny_isNot_ref_other z e1 e2 n1 (fin_bl I q (by simp [z]))

/-- two rules for one operation: by cases -/
theorem OpR.or {f : Value → Value → Sem Value} {r r' : R2} (h : OpR X f r) (h' : OpR X f r') : OpR X f (fun x y H Q => r x y H Q ∨ r' x y H Q) := by
  intro pins s σ H x y v u Q I rx ry q
  rcases q with q | q
  · exact h pins s σ H x y v u Q I rx ry q
  · exact h' pins s σ H x y v u Q I rx ry q

theorem nomark (b : Expr) {op : CmpOp} (h : op ≠ .In := by decide) (h2 : op ≠ .NotIn := by decide) : behindInMarks op b = false := by
  have e1 : (op == CmpOp.In) = false := by cases op <;> first | rfl | exact absurd rfl h
  have e2 : (op == CmpOp.NotIn) = false := by cases op <;> first | rfl | exact absurd rfl h2
  cases b <;> simp [behindInMarks, e1, e2]
/-- a comparison as a value; hm: nomark b, or (for in, not in) by with_unfolding_all rfl -/
theorem pe_cmpR {op : CmpOp} {r : R2} (ho : OpR X (compareOp op) r) (ha : PE X a ta) (hb : PE X b tb) (hm : behindInMarks op b = false) : PE X (.Compare a [op] [b] pos) (tOp r ta tb) := by
  intro pins s σ H Q I h
  exact wpAny_Compare1 (binT ha hb I h fun v u s2 x y H2 I2 rx ry q => ho pins s2 σ H2 x y v u Q I2 rx ry q) hm
/-- a reading of a value as a test -/
inductive I_tTest (x : V) (H' : Hp) (Q : Bool → Hp → Prop) : Prop where
  | mk (k : Bool) (h0_ : x = .bl k) (h1_ : Q k H') : I_tTest x H' Q
def tTest (t : TE) : TT := fun σ H Q => t σ H fun x H' => I_tTest x H' Q
theorem pt_cmpR {op : CmpOp} {r : R2} (ho : OpR X (compareOp op) r) (ha : PE X a ta) (hb : PE X b tb) (hm : behindInMarks op b = false) : PT X (.Compare a [op] [b] pos) (tTest (tOp r ta tb)) := by
  intro pins s σ H Q I h
  refine wpAny_isTrue_Compare1 (thn (ha pins s σ H _ I h) fun v s1 ⟨x, H1, I1, r1, q1⟩ => thn (hb pins s1 σ H1 _ I1 q1) fun u s2 ⟨y, H2, I2, r2, q2⟩ =>
    thn (ho pins s2 σ H2 x y v u _ I2 r1 r2 q2) fun c s3 ⟨z, H3, I3, r3, k, e, q3⟩ => ?_) hm
  subst e
  cases r3
  exact wpAny_truthy_bool ⟨H3, I3, q3⟩
/-- a op1 b op2 c -/
def tChain (r r' : R2) (ta tb tc : TE) : TE := fun σ H Q => ta σ H fun x H1 => tb σ H1 fun y H2 => r x y H2 fun z H3 => ∃ k, z = .bl k ∧
  (if k = true then tc σ H3 fun w' H4 => r' y w' H4 Q else Q (.bl false) H3)
theorem pe_chain {op op' : CmpOp} {r r' : R2} (ho : OpR X (compareOp op) r) (ho' : OpR X (compareOp op') r') (ha : PE X a ta) (hb : PE X b tb) (hc : PE X c tc)
    (hm : lastMarks [op, op'] [b, c] = false := by with_unfolding_all rfl) : PE X (.Compare a [op, op'] [b, c] pos) (tChain r r' ta tb tc) := by
  intro pins s σ H Q I h
  refine Compare_chain (thn (ha pins s σ H _ I h) fun v s1 ⟨x, H1, I1, r1, q1⟩ => chain_link (thn (hb pins s1 σ H1 _ I1 q1) fun u s2 ⟨y, H2, I2, r2, q2⟩ =>
    thn (ho pins s2 σ H2 x y v u _ I2 r1 r2 q2) fun d s3 ⟨z, H3, I3, r3, k, e, q3⟩ => ?_)) hm
  subst e
  cases r3
  refine wpAny_truthy_bool ?_
  cases k with
  | false => exact ite_ff ⟨.bl false, H3, I3, rfl, q3⟩
  | true => exact ite_tt (chain_last (thn (hc pins s3 σ H3 _ I3 q3) fun w' s4 ⟨z', H4, I4, r4, q4⟩ => ho' pins s4 σ H4 y z' u w' Q I4 r2 r4 q4))
theorem pt_chain {op op' : CmpOp} {r r' : R2} (ho : OpR X (compareOp op) r) (ho' : OpR X (compareOp op') r') (ha : PE X a ta) (hb : PE X b tb) (hc : PE X c tc)
    (hm : lastMarks [op, op'] [b, c] = false := by with_unfolding_all rfl) : PT X (.Compare a [op, op'] [b, c] pos) (tTest (tChain r r' ta tb tc)) := by
  intro pins s σ H Q I h
  refine isTrue_chain (thn (ha pins s σ H _ I h) fun v s1 ⟨x, H1, I1, r1, q1⟩ => test_link (thn (hb pins s1 σ H1 _ I1 q1) fun u s2 ⟨y, H2, I2, r2, q2⟩ =>
    thn (ho pins s2 σ H2 x y v u _ I2 r1 r2 q2) fun d s3 ⟨z, H3, I3, r3, k, e, q3⟩ => ?_)) hm
  subst e
  cases r3
  refine wpAny_truthy_bool ?_
  cases k with
  | false =>
    obtain ⟨k', e', q'⟩ := q3
    cases e'
    exact ite_ff ⟨H3, I3, q'⟩
  | true =>
    refine ite_tt (test_last (thn (hc pins s3 σ H3 _ I3 q3) fun w' s4 ⟨z', H4, I4, r4, q4⟩ => thn (ho' pins s4 σ H4 y z' u w' _ I4 r2 r4 q4) fun d' s5 ⟨z2, H5, I5, r5, k2, e2, q5⟩ => ?_))
    subst e2
    cases r5
    exact wpAny_truthy_bool ⟨H5, I5, q5⟩

/-! ### truth -/
/-- a value's truth by the abstract heap -/
def TruV (K : PySem.W.Frag) (x : V) (H : Hp) (k : Bool) : Prop :=
  match x with
  | .non => k = false
  | .bl b => k = b
  | .int i => k = (i != 0)
  | .str y => y.length ≤ sizeLine ∧ k = ((y.length : Int) != 0)
  | .byt y => y.size ≤ sizeLine ∧ k = ((y.size : Int) != 0)
  | .ref p => (∃ xs, SqL K H p xs ∧ k = !xs.isEmpty) ∨ (∃ xs, SqT K H p xs ∧ k = !xs.isEmpty) ∨ ∃ kvs, H p = some (.dK kvs) ∧ k = !kvs.isEmpty
  | _ => False
theorem isEmpty_kv {κ : Type} {kvs : List (κ × V)} {vs : List (κ × Value)} (r : KV kvs vs) : (!vs.isEmpty) = !kvs.isEmpty := by
  cases r <;> rfl
theorem isEmpty_of {xs : List V} {its : List Value} (r : Vals xs its) : (!its.toArray.isEmpty) = !xs.isEmpty := by
  cases r <;> simp
theorem line63 : (sizeLine : Nat) < 2 ^ 63 := by rw [sizeLine_eq]; decide
theorem tru_ok : TruR X (fun x H Q => ∃ k, TruV X.K x H k ∧ Q k H) := by
  intro pins s σ H x v Q I rx h
  obtain ⟨k, e, q⟩ := h
  have hl := line63
  have hs : sizeLine = 16777216 := sizeLine_eq
  cases x with
  | non =>
    cases rx
    have e' : k = false := e
    subst e'
    exact truthy_none ⟨H, I, q⟩
  | bl b =>
    cases rx
    have e' : k = b := e
    subst e'
    exact wpAny_truthy_bool ⟨H, I, q⟩
  | int i =>
    obtain ⟨t, rfl⟩ := rx
    have e' : k = (i != 0) := e
    subst e'
    exact PySem.P.truthy_int ⟨H, I, q⟩
  | str y =>
    obtain ⟨t, rfl⟩ := rx
    obtain ⟨hy, e'⟩ : y.length ≤ sizeLine ∧ k = ((y.length : Int) != 0) := e
    subst e'
    exact PySem.P.truthy_str (by omega) ⟨H, I.tok _, q⟩
  | byt y =>
    obtain ⟨t, rfl⟩ := rx
    obtain ⟨hy, e'⟩ : y.size ≤ sizeLine ∧ k = ((y.size : Int) != 0) := e
    subst e'
    exact PySem.W.truthy_bytes (by omega) ⟨H, I.tok _, q⟩
  | ref p =>
    cases rx
    have e' : (∃ xs, SqL X.K H p xs ∧ k = !xs.isEmpty) ∨ (∃ xs, SqT X.K H p xs ∧ k = !xs.isEmpty) ∨ ∃ kvs, H p = some (.dK kvs) ∧ k = !kvs.isEmpty := e
    rcases e' with ⟨xs, hx, e'⟩ | ⟨xs, hx, e'⟩ | ⟨kvs, hx, e'⟩
    · subst e'
      obtain ⟨its, r, pl, hz⟩ := I.list hx
      have hlen := r.length
      exact wpAny_truthy_list pl.isList (by simp only [List.size_toArray]; omega) ⟨H, I.tok _, by rw [isEmpty_of r]; exact q⟩
    · subst e'
      obtain ⟨its, r, pl, hz⟩ := I.tuple hx
      have hlen := r.length
      exact truthy_tuple pl (by simp only [List.size_toArray]; omega) ⟨H, I.tok _, by rw [isEmpty_of r]; exact q⟩
    · subst e'
      obtain ⟨hz, hS, vs, r, m⟩ : kvs.length ≤ sizeLine ∧ (p == sysModules) = false ∧ ∃ vs, KV kvs vs ∧ s.heap.DictOf (mixKind X.prog X.w) p vs := I.hok p _ hx
      have hlen : kvs.length = vs.length := Paired.length r
      exact wpAny_truthy_dict hS m (by omega) ⟨H, I.tok _, by rw [isEmpty_kv r]; exact q⟩
  | _ => exact (show False from e).elim
/-- any expression whose test is its value's truth (a name, a call, a subscript, a field ..: he by fun _ => rfl) -/
theorem pt_truth (ha : PE X a ta) (he : ∀ whole, isTrue a X.env whole = (do let v ← whole; standAt a.pos; holding [v] (truthy v))) :
    PT X a (fun σ H Q => ta σ H fun x H' => ∃ k, TruV X.K x H' k ∧ Q k H') := by
  intro pins s σ H Q I h
  exact isTrue_plain (thn (ha pins s σ H _ I h) fun v s1 ⟨x, H1, I1, r1, q1⟩ => tru_ok pins s1 σ H1 x v Q I1 r1 q1) (he _)

/-! ### strs and bytes -/
theorem pe_byt {x : List UInt8} {k : Nat} : PE X (.Constant (.bytes x) k pos) (fun _ H Q => Q (.byt x.toArray) H) := fun _ _ _ H _ I h => PySem.W.Constant_bytes ⟨.byt x.toArray, H, I.tok _, ⟨_, rfl⟩, h⟩
theorem op_add_str : OpR X (binaryOp .Add) (fun x y H Q => ∃ i j, x = .str i ∧ y = .str j ∧ i.length + j.length ≤ sizeLine ∧ Q (.str (i ++ j)) H) := by
  intro pins s σ H x y v u Q I rx ry h
  obtain ⟨i, j, rfl, rfl, hz, q⟩ := h
  obtain ⟨t, rfl⟩ := rx
  obtain ⟨t', rfl⟩ := ry
  exact add_str (fun t' tk => ⟨.str (i ++ j), H, I.tok _, ⟨_, rfl⟩, q⟩) hz
theorem iop_add_str : OpR X (inplaceOp .Add) (fun x y H Q => ∃ i j, x = .str i ∧ y = .str j ∧ i.length + j.length ≤ sizeLine ∧ Q (.str (i ++ j)) H) := by
  intro pins s σ H x y v u Q I rx ry h
  obtain ⟨i, j, rfl, rfl, hz, q⟩ := h
  obtain ⟨t, rfl⟩ := rx
  obtain ⟨t', rfl⟩ := ry
  exact iadd_str (fun t' tk => ⟨.str (i ++ j), H, I.tok _, ⟨_, rfl⟩, q⟩) hz
theorem op_add_byt : OpR X (binaryOp .Add) (fun x y H Q => ∃ i j, x = .byt i ∧ y = .byt j ∧ i.size + j.size ≤ 16777216 ∧ Q (.byt (i ++ j)) H) := by
  intro pins s σ H x y v u Q I rx ry h
  obtain ⟨i, j, rfl, rfl, hz, q⟩ := h
  obtain ⟨t, rfl⟩ := rx
  obtain ⟨t', rfl⟩ := ry
  exact PySem.W.KBy.add_bytes hz (fun t' tk => ⟨.byt (i ++ j), H, I.tok _, ⟨_, rfl⟩, q⟩)

def PlainIxT (b : Expr) : Prop := ∀ o i, subscripted b false o i = operate [o, i] (getItem o i)
/-- s[i], 0 ≤ i < len -/
theorem pe_item_str (ha : PE X a ta) (hb : PE X b tb) (hs : PlainIxT b) :
    PE X (.Subscript a b pos) (tOp (fun x y H Q => ∃ z i c, x = .str z ∧ y = .int i ∧ 0 ≤ i ∧ i < 2 ^ 63 ∧ i < z.length ∧ z.cps[i.toNat]? = some c ∧ Q (.str ⟨#[c]⟩) H) ta tb) := by
  intro pins s σ H Q I h
  refine Subscript_ (binT ha hb I h fun v u s2 x y H2 I2 rx ry q => ?_)
  obtain ⟨z, i, c, rfl, rfl, h0, h63, h1, hc, q⟩ := q
  obtain ⟨t, rfl⟩ := rx
  obtain ⟨t', rfl⟩ := ry
  have e : seqIndex? i z.length = some i.toNat := PySem.StrLaws.seqIndex_nonneg h0 h1
  exact tail_any (typeIs_str s2 z t) slot_str_getitem.lookup (getItem_str (c := c) (by
    have e1 : decide (i < -(2 ^ 63 : Int)) = false := decide_eq_false (by omega)
    have e2 : decide (i ≥ 2 ^ 63) = false := decide_eq_false (by omega)
    rw [e1, e2] <;> rfl) (by rw [e]; exact hc) ⟨.str ⟨#[c]⟩, H2, I2.tok _, ⟨_, rfl⟩, q⟩) (hs _ _)
/-- b[i], 0 ≤ i < len -/
theorem pe_item_byt (ha : PE X a ta) (hb : PE X b tb) (hs : PlainIxT b) :
    PE X (.Subscript a b pos) (tOp (fun x y H Q => ∃ (z : List UInt8) (i : Int), x = .byt z.toArray ∧ y = .int i ∧ z.length ≤ sizeLine ∧ 0 ≤ i ∧ i < z.length ∧ Q (.int ((z.getD i.toNat 0).toNat : Nat)) H) ta tb) := by
  intro pins s σ H Q I h
  refine Subscript_ (binT ha hb I h fun v u s2 x y H2 I2 rx ry q => ?_)
  obtain ⟨z, i, rfl, rfl, hz, h0, h1, q⟩ := q
  obtain ⟨t, rfl⟩ := rx
  obtain ⟨t', rfl⟩ := ry
  have hl : sizeLine = 16777216 := sizeLine_eq
  exact tail_any (PySem.W.typeIs_bytes s2 z.toArray t) PySem.W.FB.slot_bytes_getitem.lookup (PySem.W.getItem_bytes (by omega) h0 h1 ⟨.int ((z.getD i.toNat 0).toNat : Nat), H2, I2.tok _, ⟨_, rfl⟩, q⟩) (hs _ _)

/-! ### scalar builtins, by CallR -/
theorem vals1 {x : V} {us : List Value} (r : Vals [x] us) : ∃ u, us = [u] ∧ RelV x u := by
  cases r with
  | cons r1 r2 => cases r2; exact ⟨_, rfl, r1⟩
theorem vals2 {x y : V} {us : List Value} (r : Vals [x, y] us) : ∃ u w', us = [u, w'] ∧ RelV x u ∧ RelV y w' := by
  cases r with
  | cons r1 r2 =>
    cases r2 with
    | cons r3 r4 => cases r4; exact ⟨_, _, rfl, r1, r3⟩
theorem call_abs : CallR X (.builtin "abs") (fun xs H Q => ∃ i, xs = [.int i] ∧ Q (.int (if i < 0 then -i else i)) H) := by
  intro pins s σ H xs us Q I r h
  obtain ⟨i, rfl, q⟩ := h
  obtain ⟨u, rfl, t, rfl⟩ := vals1 r
  exact call_abs_int fun u tk => ⟨.int (if i < 0 then -i else i), H, I.tok _, ⟨_, rfl⟩, q⟩
theorem call_max2 (hc : X.calm = true) : CallR X (.builtin "max") (fun xs H Q => ∃ i j, xs = [.int i, .int j] ∧ Q (.int (if j > i then j else i)) H) := by
  intro pins s σ H xs us Q I r h
  obtain ⟨i, j, rfl, q⟩ := h
  obtain ⟨u, w', rfl, ⟨t, rfl⟩, ⟨t', rfl⟩⟩ := vals2 r
  refine max_two_ints (I.ok.hd hc) fun h' tk k => ⟨_, H, I.kept k, ?_, q⟩
  by_cases hj : j > i
  · rw [if_pos hj, if_pos hj]; exact ⟨_, rfl⟩
  · rw [if_neg hj, if_neg hj]; exact ⟨_, rfl⟩
theorem call_min2 (hc : X.calm = true) : CallR X (.builtin "min") (fun xs H Q => ∃ i j, xs = [.int i, .int j] ∧ Q (.int (if j < i then j else i)) H) := by
  intro pins s σ H xs us Q I r h
  obtain ⟨i, j, rfl, q⟩ := h
  obtain ⟨u, w', rfl, ⟨t, rfl⟩, ⟨t', rfl⟩⟩ := vals2 r
  refine min_two_ints (I.ok.hd hc) fun h' tk k => ⟨_, H, I.kept k, ?_, q⟩
  by_cases hj : j < i
  · rw [if_pos hj, if_pos hj]; exact ⟨_, rfl⟩
  · rw [if_neg hj, if_neg hj]; exact ⟨_, rfl⟩
theorem call_int1 : CallR X (.type "int") (fun xs H Q => (∃ i, xs = [.int i] ∧ Q (.int i) H) ∨ ∃ k, xs = [.bl k] ∧ Q (.int (if k then 1 else 0)) H) := by
  intro pins s σ H xs us Q I r h
  rcases h with ⟨i, rfl, q⟩ | ⟨k, rfl, q⟩
  · obtain ⟨u, rfl, t, rfl⟩ := vals1 r
    exact call_int_int ⟨.int i, H, I, ⟨_, rfl⟩, q⟩
  · obtain ⟨u, rfl, r1⟩ := vals1 r
    cases r1
    exact call_int_bool ⟨.int (if k then 1 else 0), H, I.tok _, ⟨_, rfl⟩, q⟩
theorem call_bool1 : CallR X (.type "bool") (fun xs H Q => (∃ i, xs = [.int i] ∧ Q (.bl (i != 0)) H) ∨ ∃ k, xs = [.bl k] ∧ Q (.bl k) H) := by
  intro pins s σ H xs us Q I r h
  rcases h with ⟨i, rfl, q⟩ | ⟨k, rfl, q⟩
  · obtain ⟨u, rfl, t, rfl⟩ := vals1 r
    exact call_bool_int ⟨.bl (i != 0), H, I, rfl, q⟩
  · obtain ⟨u, rfl, r1⟩ := vals1 r
    cases r1
    exact call_bool_bool ⟨.bl k, H, I, rfl, q⟩
theorem call_str_int : CallR X (.type "str") (fun xs H Q => ∃ i, xs = [.int i] ∧ i.natAbs.log2 < 1920 ∧ Q (.str (toString i)) H) := by
  intro pins s σ H xs us Q I r h
  obtain ⟨i, rfl, hz, q⟩ := h
  obtain ⟨u, rfl, t, rfl⟩ := vals1 r
  exact PySem.P.str_of_int hz ⟨.str _, H, I.tok _, ⟨_, rfl⟩, q⟩
theorem call_ord : CallR X (.builtin "ord") (fun xs H Q => ∃ x, xs = [.str x] ∧ x.length = 1 ∧ Q (.int (x.cps.getD 0 0 : Nat)) H) := by
  intro pins s σ H xs us Q I r h
  obtain ⟨x, rfl, hz, q⟩ := h
  obtain ⟨u, rfl, t, rfl⟩ := vals1 r
  exact ord_of_one hz ⟨.int _, H, I.tok _, ⟨_, rfl⟩, q⟩
theorem call_chr : CallR X (.builtin "chr") (fun xs H Q => ∃ i, xs = [.int i] ∧ 0 ≤ i ∧ i ≤ 1114111 ∧ Q (.str ⟨#[i.toNat]⟩) H) := by
  intro pins s σ H xs us Q I r h
  obtain ⟨i, rfl, h0, h1, q⟩ := h
  obtain ⟨u, rfl, t, rfl⟩ := vals1 r
  exact chr_of_range h0 h1 ⟨.str _, H, I.tok _, ⟨_, rfl⟩, q⟩
/-- len of a str, a bytes, a list, a tuple -/
def LenV (K : PySem.W.Frag) (x : V) (H : Hp) (n : Nat) : Prop :=
  match x with
  | .str y => y.length ≤ sizeLine ∧ n = y.length
  | .byt y => y.size ≤ sizeLine ∧ n = y.size
  | .ref p => (∃ xs, SqL K H p xs ∧ n = xs.length) ∨ ∃ xs, SqT K H p xs ∧ n = xs.length
  | _ => False
theorem call_len : CallR X (.builtin "len") (fun xs H Q => ∃ x n, xs = [x] ∧ LenV X.K x H n ∧ Q (.int n) H) := by
  intro pins s σ H xs us Q I r h
  obtain ⟨x, n, rfl, e, q⟩ := h
  obtain ⟨u, rfl, rx⟩ := vals1 r
  have hl := line63
  have hs : sizeLine = 16777216 := sizeLine_eq
  cases x with
  | str y =>
    obtain ⟨t, rfl⟩ := rx
    obtain ⟨hy, e'⟩ : y.length ≤ sizeLine ∧ n = y.length := e
    subst e'
    exact len_str (by omega) ⟨.int _, H, I.tok _, ⟨_, rfl⟩, q⟩
  | byt y =>
    obtain ⟨t, rfl⟩ := rx
    obtain ⟨hy, e'⟩ : y.size ≤ sizeLine ∧ n = y.size := e
    subst e'
    exact PySem.W.len_bytes (by omega) ⟨.int _, H, I.tok _, ⟨_, rfl⟩, q⟩
  | ref p =>
    cases rx
    have e' : (∃ xs, SqL X.K H p xs ∧ n = xs.length) ∨ ∃ xs, SqT X.K H p xs ∧ n = xs.length := e
    rcases e' with ⟨xs, hx, e'⟩ | ⟨xs, hx, e'⟩
    · subst e'
      obtain ⟨its, r', pl, hz⟩ := I.list hx
      have hlen := r'.length
      exact Calls.call_len_list pl.isList (by simp only [List.size_toArray]; omega) ⟨.int xs.length, H, I.tok _, ⟨_, by simp only [List.size_toArray]; rw [hlen]⟩, q⟩
    · subst e'
      obtain ⟨its, r', pl, hz⟩ := I.tuple hx
      have hlen := r'.length
      exact len_tuple pl (by simp only [List.size_toArray]; omega) ⟨.int xs.length, H, I.tok _, ⟨_, by simp only [List.size_toArray]; rw [hlen]⟩, q⟩
  | _ => exact (show False from e).elim
/-- divmod: a new tuple -/
theorem call_divmod : CallR X (.builtin "divmod") (fun xs H Q => ∃ i j, xs = [.int i, .int j] ∧ CDiv i j ∧ ∀ p, H p = none → Q (.ref p) (upd H p (.tup [.int (i / j), .int (i % j)]))) := by
  intro pins s σ H xs us Q I r h
  obtain ⟨i, j, rfl, ⟨h1, h2⟩, q⟩ := h
  obtain ⟨u, w', rfl, ⟨t, rfl⟩, ⟨t', rfl⟩⟩ := vals2 r
  refine divmod_int (by omega) ?_ (.inl (PyProof.noPylong_small (by omega)))
  rw [Int.fdiv_eq_ediv_of_nonneg i (by omega), Int.fmod_eq_emod_of_nonneg i (by omega)]
  have hn : H s.heap.objs.size = none := I.hok.fresh (Nat.le_refl _)
  refine ⟨.ref s.heap.objs.size, _, ?_, rfl, q _ hn⟩
  refine I.laid (fun b o e => Heap.get?_push_of_some _ e) (Nat.le_refl _) ⟨by simp only [List.length_cons, List.length_nil]; rw [sizeLine_eq]; decide, [.int (i / j) s.toks, .int (i % j) (s.toks + 1)], .cons ⟨_, rfl⟩ (.cons ⟨_, rfl⟩ .nil), ?_⟩
  exact ⟨_, Heap.get?_push_size s.heap rfl, rfl, 0, rfl⟩
end
end L2

namespace L2
open PySem PySem.Spec PyProof.Rows

/-! ### an instance, its attributes a map -/
structure ObjM (h : Heap) (x dx C : Addr) (mA : Str → Option Value) : Prop where
  obj : h.get? x = some (PySem.W.instObj C dx)
  ns : h.Ns1 dx mA
  ne : dx ≠ x

theorem lookIn_ns {h : Heap} {dx : Addr} {mA : Str → Option Value} (n : h.Ns1 dx mA) : ∃ od, h.get? dx = some od ∧ ∀ name, PySem.W.lookIn name od = some (mA name) := by
  obtain ⟨o, es, ep, ho, hd, hk, _, hm⟩ := n
  refine ⟨o, ho, fun name => ?_⟩
  have e := hm name
  unfold nsFind findBy at e
  rw [← Array.find?_toList] at e
  unfold PySem.W.lookIn
  rw [hd]
  dsimp only
  split
  · rename_i y q
    rw [q] at e
    exact congrArg some e
  · rename_i q
    rw [q] at e
    have a : es.toList.any (·.refKey) = false := by
      rw [List.any_eq_false]
      intro y hy
      obtain ⟨z, t, hkey⟩ := hk y (Array.mem_toList_iff.mp hy)
      simp [DictEntry.refKey, hkey]
    have a' : ¬ es.toList.any (·.refKey) = true := by rw [a]; exact Bool.false_ne_true
    rw [if_neg a']
    exact congrArg some e

theorem ObjM.look {h : Heap} {x dx C : Addr} {mA : Str → Option Value} (I : ObjM h x dx C mA) : ∃ od, PySem.W.InstAt h x (PySem.W.instObj C dx) C (some od) ∧ ∀ name, PySem.W.lookIn name od = some (mA name) :=
  let ⟨od, ho, hl⟩ := lookIn_ns I.ns
  ⟨od, ⟨I.obj, rfl, rfl, ho⟩, hl⟩

section
variable {prog : Program} {w : World} {A : Around} {E : Value → Shared → Prop} {s : Shared} {K : PySem.W.Frag} {x dx C f : Addr} {mA : Str → Option Value} {name : Str} {v : Value}

theorem get_map {expr : Bool} {Q : Value → Shared → Prop} (X : K.In s.heap) (I : ObjM s.heap x dx C mA) (hg : PySem.W.plainGet K C name = true) (hh : PySem.W.hasDictIn K C = true)
    (ha : PySem.W.findIn K (.ref C) name = some none) (hv : mA name = some v) (hv' : PySem.W.handedIn v = true) (h : Q v { s with toks := s.toks + 1 }) :
    wpAny (model prog w) A (getAttr (.ref x) name expr) Q E s := by
  obtain ⟨od, J, hl⟩ := I.look
  exact PySem.W.get_value X J (PySem.W.plainGet_of hg).1 (PySem.W.findObj_own hh ha rfl (by rw [hl, hv])) hv' h

theorem get_const {expr : Bool} {a : Value} {Q : Value → Shared → Prop} (X : K.In s.heap) (I : ObjM s.heap x dx C mA) (hg : PySem.W.plainGet K C name = true) (hh : PySem.W.hasDictIn K C = true)
    (ha : PySem.W.findIn K (.ref C) name = some (some a)) (hn : PySem.W.specialIn K a "__get__" = some none) (hc : PySem.W.copiedNames.contains name = false) (hv : mA name = none) (hv' : PySem.W.handedIn a = true)
    (h : Q a { s with toks := s.toks + 1 }) : wpAny (model prog w) A (getAttr (.ref x) name expr) Q E s := by
  obtain ⟨od, J, hl⟩ := I.look
  exact PySem.W.get_value X J (PySem.W.plainGet_of hg).1 (PySem.W.findObj_cls hh ha hn hv' hc (by rw [hl, hv])) hv' h

theorem get_meth {pl : Sem Bool} {Q : Value × List Value → Shared → Prop} (X : K.In s.heap) (I : ObjM s.heap x dx C mA) (hg : PySem.W.plainGet K C name = true)
    (hf : PySem.W.findIn K (.ref C) name = some (some (.ref f))) (ht : PySem.W.isFn K (.ref f) = true) (hv : mA name = none) (h : Q (.ref f, [.ref x]) s) :
    wpAny (model prog w) A (getMethod (.ref x) name pl) Q E s := by
  obtain ⟨od, J, hl⟩ := I.look
  exact PySem.W.method_fn X J (PySem.W.plainGet_of hg).1 (PySem.W.plainGet_of hg).2 hf (beq_iff_eq.mp ht) (by show (PySem.W.lookIn name od).map (·.isSome) = some false; rw [hl, hv]; rfl) h

theorem set_map {ns : List Str} {Q : Unit → Shared → Prop} (X : K.In s.heap) (I : ObjM s.heap x dx C mA)
    (hs : PySem.W.findIn K (.ref C) "__setattr__" = some (some (.builtin "object.__setattr__"))) (hp : PySem.W.plainOver K C = true) (ht : PySem.W.takerIn K C name = some none) (hh : PySem.W.hasDictIn K C = true)
    (hw : PySem.Within mA ns) (hsz : ns.length ≤ sizeLine)
    (h : ∀ h', ObjM h' x dx C (fun y => if y = name then some v else mA y) → Heap.SameBut dx s.heap h' → Q () { s with heap := h', toks := s.toks + 2 }) :
    wpAny (model prog w) A (setAttr (.ref x) name v) Q E s := by
  obtain ⟨od, J, hl⟩ := I.look
  refine PySem.W.set_plain X J hs (PySem.W.osa_open (s := { s with toks := s.toks + 1 }) (r := none) X J hp ht fun b => ?_)
  obtain ⟨cd, hc, hd'⟩ := PySem.W.any_some hh
  have hx : s.heap.get? x = some ⟨.ref C, some dx, .plain, #[]⟩ := I.obj
  refine wpAny_bind (wpAny_pure (wpAny_bind (wpAny_bind (wpAny_loadPart hx (wpAny_bind (PySem.W.Looks.here (s := { s with toks := s.toks + 1 }) (PySem.W.looks_clsIn X hc) ?_))))))
  rw [hd']
  refine wpAny_pure (a := some dx) (wpAny_bind (wpAny_pure (wpAny_bind ?_)))
  refine wpAny_nsSet1 (s := { s with toks := s.toks + 1 }) I.ns fun h' hn2 hs2 => ?_
  obtain ⟨oD, esD, epD, hoD, hdD, hcD⟩ := hn2.count (PySem.Within.cons name v hw)
  refine wpAny_bind (wpAny_lookBehind hoD (by rw [hdD]; exact pastItsLine_dict (Nat.le_trans hcD (by rw [List.length_cons]; omega))) ?_)
  exact wpAny_pure (h _ ⟨(hs2.2 _ (Ne.symm I.ne)).trans I.obj, hn2, I.ne⟩ hs2)

/-- C(..): the dict at the heap's end, the instance behind it; then its __init__ -/
theorem make_map {R : Result → Shared → Prop} {vs : List Value} {kw : List (Str × Value)} (X : K.In s.heap) (hm : PySem.W.makesIn K C = true)
    (hi : PySem.W.findIn K (.ref C) "__init__" = some (some (.ref f))) (hf : PySem.W.typeIn K (.ref f) = some (.type "function"))
    (h : codeAny (model prog w) (A.under (.builtin "type.__call__" ⟨.ref C :: vs, kw⟩)) (.call (.ref f) ⟨.ref (s.heap.objs.size + 1) :: vs, kw⟩) (PySem.W.InitBack (s.heap.objs.size + 1) R)
      { s with heap := (s.heap.push PySem.W.emptyDict).push (PySem.W.instObj C s.heap.objs.size) }) :
    codeAny (model prog w) A (.call (.ref C) ⟨vs, kw⟩) R s := by
  obtain ⟨hh, g, d, t, os⟩ := s
  exact PySem.W.make_core (PySem.W.makes_of X hm) (PySem.W.looks_findIn X hi) (fun self => PySem.W.bind_fn X self hf) (.inl rfl) h
/-- C() where there is no __init__ but object's -/
theorem make_map0 {R : Result → Shared → Prop} (X : K.In s.heap) (hm : PySem.W.makesIn K C = true)
    (hi : PySem.W.findIn K (.ref C) "__init__" = some (some (.builtin "object.__init__")))
    (hb : ∀ self, PySem.W.Looks (model prog w) s.heap (bindSpecial (.builtin "object.__init__") self) (.builtin "object.__init__", [self]))
    (h : codeAny (model prog w) (A.under (.builtin "type.__call__" ⟨[.ref C], []⟩)) (.call (.builtin "object.__init__") ⟨[.ref (s.heap.objs.size + 1)], []⟩) (PySem.W.InitBack (s.heap.objs.size + 1) R)
      { s with heap := (s.heap.push PySem.W.emptyDict).push (PySem.W.instObj C s.heap.objs.size) }) :
    codeAny (model prog w) A (.call (.ref C) ⟨[], []⟩) R s := by
  obtain ⟨hh, g, d, t, os⟩ := s
  exact PySem.W.make_core (PySem.W.makes_of X hm) (PySem.W.looks_findIn X hi) hb (.inr ⟨rfl, rfl⟩) h
end

/-! ### the attributes as a list of pairs -/
def putF (f : Str) (v : V) : List (Str × V) → List (Str × V)
  | [] => [(f, v)]
  | (g, x) :: r => if g = f then (g, v) :: r else (g, x) :: putF f v r
theorem lookup_putF (f g : Str) (v : V) : ∀ fs : List (Str × V), (putF f v fs).lookup g = if g = f then some v else fs.lookup g
  | [] => by
    show List.lookup g [(f, v)] = _
    by_cases h : g = f
    · have hb : (g == f) = true := beq_iff_eq.mpr h
      simp only [List.lookup, hb, if_pos h]
    · have hb : (g == f) = false := beq_eq_false_iff_ne.mpr h
      simp only [List.lookup, hb, if_neg h]
  | (k, x) :: r => by
    have ih := lookup_putF f g v r
    rw [show putF f v ((k, x) :: r) = (if k = f then (k, v) :: r else (k, x) :: putF f v r) from rfl]
    by_cases hk : k = f
    · rw [if_pos hk]
      by_cases h : g = k
      · have hb : (g == k) = true := beq_iff_eq.mpr h
        simp only [List.lookup, hb, if_pos (h.trans hk)]
      · have hb : (g == k) = false := beq_eq_false_iff_ne.mpr h
        simp only [List.lookup, hb, if_neg (fun e : g = f => h (e.trans hk.symm))]
    · rw [if_neg hk]
      by_cases h : g = k
      · have hb : (g == k) = true := beq_iff_eq.mpr h
        simp only [List.lookup, hb, if_neg (fun e : g = f => hk (h.symm.trans e))]
      · have hb : (g == k) = false := beq_eq_false_iff_ne.mpr h
        simp only [List.lookup, hb]
        exact ih
theorem keys_putF (f : Str) (v : V) : ∀ fs : List (Str × V), f ∈ (putF f v fs).map (·.1) ∧ ∀ g, g ∈ fs.map (·.1) → g ∈ (putF f v fs).map (·.1)
  | [] => ⟨by simp [putF], fun g h => by simp at h⟩
  | (k, x) :: r => by
    obtain ⟨i1, i2⟩ := keys_putF f v r
    rw [show putF f v ((k, x) :: r) = (if k = f then (k, v) :: r else (k, x) :: putF f v r) from rfl]
    by_cases hk : k = f
    · rw [if_pos hk]
      subst hk
      exact ⟨by simp, fun g h => by simpa using h⟩
    · rw [if_neg hk]
      refine ⟨?_, fun g h => ?_⟩
      · rw [List.map_cons]
        exact List.mem_cons_of_mem _ i1
      · rw [List.map_cons] at h ⊢
        rcases List.mem_cons.mp h with e | e
        · exact List.mem_cons.mpr (.inl e)
        · exact List.mem_cons_of_mem _ (i2 g e)
theorem length_putF (f : Str) (v : V) : ∀ fs : List (Str × V), (putF f v fs).length ≤ fs.length + 1
  | [] => by simp [putF]
  | (k, x) :: r => by
    have ih := length_putF f v r
    rw [show putF f v ((k, x) :: r) = (if k = f then (k, v) :: r else (k, x) :: putF f v r) from rfl]
    by_cases hk : k = f
    · rw [if_pos hk, List.length_cons, List.length_cons]; omega
    · rw [if_neg hk, List.length_cons, List.length_cons]; omega

theorem RelO.some_of {v : V} {o : Option Value} (r : RelO (some v) o) : ∃ u, o = some u ∧ RelV v u := by
  cases o with
  | none => exact (show False from r).elim
  | some u => exact ⟨u, rfl, r⟩
theorem RelO.none_of {o : Option Value} (r : RelO none o) : o = none := by
  cases o with
  | none => rfl
  | some u => exact (show False from r).elim
theorem handed_of {v : V} {u : Value} (r : RelV v u) : PySem.W.handedIn u = true := by
  cases v with
  | non => cases (show u = Value.none from r); rfl
  | bl b => cases (show u = Value.bool b from r); rfl
  | int i => obtain ⟨t, e⟩ := (show ∃ t, u = Value.int i t from r); cases e; rfl
  | str x => obtain ⟨t, e⟩ := (show ∃ t, u = Value.str x t from r); cases e; rfl
  | byt b => obtain ⟨t, e⟩ := (show ∃ t, u = Value.bytes b t from r); cases e; rfl
  | flt b => obtain ⟨t, e⟩ := (show ∃ t, u = Value.float b t from r); cases e; rfl
  | ref a => cases (show u = Value.ref a from r); rfl
  | ty n => cases (show u = Value.type n from r); rfl

section
variable {P : Program} {w : World} {H H' : Hp} {h h' : Heap} {a C dx : Addr} {fs fs' : List (Str × V)}
theorem ins_get (hok : HOk P w H h) (e : H a = some (.ins C dx fs)) : ∃ mA, ObjM h a dx C mA ∧ (∀ f, RelO (fs.lookup f) (mA f)) ∧ PySem.Within mA (fs.map (·.1)) ∧ fs.length ≤ 1000 ∧ H dx = some (.own a) := by
  obtain ⟨d, z, ne, ob, mA, n, r, q⟩ := (show ObjOk P w H h a (.ins C dx fs) from hok a _ e)
  exact ⟨mA, ⟨ob, n, ne⟩, r, q, z, d⟩
end

/-! ### what of the text a class must have -/
structure Cls (K : PySem.W.Frag) (C : Addr) : Prop where
  pg : PySem.W.plainGet K C Str.empty = true
  hd : PySem.W.hasDictIn K C = true
  po : PySem.W.plainOver K C = true
  sa : PySem.W.findIn K (.ref C) "__setattr__" = some (some (.builtin "object.__setattr__"))
theorem Cls.get {K : PySem.W.Frag} {C : Addr} (c : Cls K C) (f : Str) : PySem.W.plainGet K C f = true := c.pg
/-- no class of it has the name -/
def NoAttr (K : PySem.W.Frag) (C : Addr) (f : Str) : Prop := PySem.W.findIn K (.ref C) f = some none
theorem NoAttr.taker {K : PySem.W.Frag} {C : Addr} {f : Str} (n : NoAttr K C f) : PySem.W.takerIn K C f = some none := by
  unfold PySem.W.takerIn
  rw [show PySem.W.findIn K (.ref C) f = some none from n]
  rfl
/-- a constant of the class -/
structure Con (K : PySem.W.Frag) (C : Addr) (f : Str) (v : V) (u : Value) : Prop where
  at_ : PySem.W.findIn K (.ref C) f = some (some u)
  rel : RelV v u
  get : PySem.W.specialIn K u "__get__" = some none
  cp : PySem.W.copiedNames.contains f = false
/-- a method: a plain def of the class or of one above it -/
structure Meth (K : PySem.W.Frag) (C : Addr) (m : Str) (f : Addr) : Prop where
  at_ : PySem.W.findIn K (.ref C) m = some (some (.ref f))
  fn : PySem.W.isFn K (.ref f) = true
  kp : PySem.W.keepIn K (.ref f) = true

section
variable {X : Cx} {pins : List (Addr × Obj)} {σ : St} {H : Hp} {s : Shared} {a C dx : Addr} {fs : List (Str × V)} {f : Str} {v : V} {A : Around} {E : Value → Shared → Prop}

theorem getattr_ok {b : Bool} {Q : Value → Shared → Prop} (I : Inv X pins σ H s) (e : H a = some (.ins C dx fs)) (c : Cls X.K C) (n : NoAttr X.K C f) (l : fs.lookup f = some v)
    (h : ∀ u s', Inv X pins σ H s' → RelV v u → Q u s') : wpAny (model X.prog X.w) A (getAttr (.ref a) f b) Q E s := by
  obtain ⟨mA, O, r, _, _, _⟩ := ins_get I.hok e
  obtain ⟨u, hu, ru⟩ := RelO.some_of (v := v) (o := mA f) (by rw [← l]; exact r f)
  exact get_map I.kIn O (c.get f) c.hd n hu (handed_of ru) (h u _ (I.tok _) ru)

theorem getcon_ok {b : Bool} {u : Value} {Q : Value → Shared → Prop} (I : Inv X pins σ H s) (e : H a = some (.ins C dx fs)) (c : Cls X.K C) (k : Con X.K C f v u) (l : fs.lookup f = none)
    (h : ∀ s', Inv X pins σ H s' → Q u s') : wpAny (model X.prog X.w) A (getAttr (.ref a) f b) Q E s := by
  obtain ⟨mA, O, r, _, _, _⟩ := ins_get I.hok e
  have hn : mA f = none := RelO.none_of (by rw [← l]; exact r f)
  exact get_const I.kIn O (c.get f) c.hd k.at_ k.get k.cp hn (handed_of k.rel) (h _ (I.tok _))

theorem getmeth_ok {m : Str} {g : Addr} {pl : Sem Bool} {Q : Value × List Value → Shared → Prop} (I : Inv X pins σ H s) (e : H a = some (.ins C dx fs)) (c : Cls X.K C) (k : Meth X.K C m g) (l : fs.lookup m = none)
    (h : Q (.ref g, [.ref a]) s) : wpAny (model X.prog X.w) A (getMethod (.ref a) m pl) Q E s := by
  obtain ⟨mA, O, r, _, _, _⟩ := ins_get I.hok e
  have hn : mA m = none := RelO.none_of (by rw [← l]; exact r m)
  exact get_meth I.kIn O (c.get m) k.at_ k.fn hn h

theorem setattr_ok {y : V} {u : Value} {Q : Unit → Shared → Prop} (I : Inv X pins σ H s) (e : H a = some (.ins C dx fs)) (c : Cls X.K C) (n : NoAttr X.K C f) (hl : fs.length < 1000) (ry : RelV y u)
    (h : ∀ s', Inv X pins σ (upd H a (.ins C dx (putF f y fs))) s' → Q () s') : wpAny (model X.prog X.w) A (setAttr (.ref a) f u) Q E s := by
  obtain ⟨mA, O, r, wi, _, ho⟩ := ins_get I.hok e
  have hz : (fs.map (·.1)).length ≤ sizeLine := by rw [List.length_map, sizeLine_eq]; omega
  refine set_map I.kIn O c.sa c.po n.taker c.hd wi hz fun h' O' sb => h _ ?_
  have hd : ∃ o, h'.get? dx = some o := let ⟨o, _, _, e', _⟩ := O'.ns; ⟨o, e'⟩
  refine I.write (x := a) (e := dx) (by rw [e]; exact True.intro) (.inr ho) (fun b q hb z => (sb.2 b hb).trans z) hd ?_
  refine ⟨by rw [upd_ne O.ne]; exact ho, ?_, O.ne, O'.obj, _, O'.ns, fun g => ?_, fun g hg => ?_⟩
  · have := length_putF f y fs; omega
  · show RelO ((putF f y fs).lookup g) (if g = f then some u else mA g)
    rw [lookup_putF]
    by_cases q : g = f
    · rw [if_pos q, if_pos q]; exact ry
    · rw [if_neg q, if_neg q]; exact r g
  · by_cases q : g = f
    · rw [q]; exact (keys_putF f y fs).1
    · refine (keys_putF f y fs).2 g (wi g fun z => hg ?_)
      show (if g = f then some u else mA g) = none
      rw [if_neg q]; exact z

/-- a new instance, tracked, without attributes -/
theorem Inv.made (I : Inv X pins σ H s) : Inv X pins σ (upd (upd H s.heap.objs.size (.own (s.heap.objs.size + 1))) (s.heap.objs.size + 1) (.ins C s.heap.objs.size []))
    { s with heap := (s.heap.push PySem.W.emptyDict).push (PySem.W.instObj C s.heap.objs.size) } := by
  have e1 : (s.heap.push PySem.W.emptyDict).get? s.heap.objs.size = some PySem.W.emptyDict := Heap.get?_push_size s.heap rfl
  have e2 : ((s.heap.push PySem.W.emptyDict).push (PySem.W.instObj C s.heap.objs.size)).get? (s.heap.objs.size + 1) = some (PySem.W.instObj C s.heap.objs.size) := by
    have := Heap.get?_push_size (s.heap.push PySem.W.emptyDict) (o := PySem.W.instObj C s.heap.objs.size) rfl
    rwa [Heap.size_push] at this
  have e3 : (s.heap.push PySem.W.emptyDict).Ns s.heap.objs.size (fun _ => none) := ⟨PySem.W.emptyDict, #[], _, e1, rfl, (fun e he => absurd he (by simp)), fun _ => rfl⟩
  have I1 := I.laid (a := s.heap.objs.size) (o := .own (s.heap.objs.size + 1)) (h' := s.heap.push PySem.W.emptyDict) (t' := s.toks) (fun b u q => Heap.get?_push_of_some _ q) (Nat.le_refl _) ⟨_, e1⟩
  refine I1.laid (a := s.heap.objs.size + 1) (o := .ins C s.heap.objs.size []) (t' := s.toks) (fun b u q => Heap.get?_push_of_some _ q) (Nat.le_of_eq (Heap.size_push _ _)) ?_
  have ne : s.heap.objs.size ≠ s.heap.objs.size + 1 := Nat.ne_of_lt (Nat.lt_succ_self _)
  refine ⟨by rw [upd_ne ne, upd_same], Nat.zero_le _, ne, e2, fun _ => none, (Heap.Ns1.of_empty e3).at fun o q => Heap.get?_push_of_some _ q, fun _ => True.intro, fun y hy => absurd rfl hy⟩

/-- e.f where nothing but the object is asked: through attributeBase (super) and the last hold -/
theorem attr_of {prog : Program} {w : World} {env : Env} {e : Expr} {f : Str} {pos : Pos} {s : Shared} {Q : Value → Shared → Prop} (hb : attributeBase e f env (eval e env) = eval e env)
    (h : wpAny (model prog w) A (eval e env) (fun o s₁ => wpAny (model prog w) A (getAttr o f true) Q E s₁) E s) : wpAny (model prog w) A (eval (.Attribute e f pos) env) Q E s :=
  Attribute_any_ h (by rw [arm_eval_Attribute, hb])
end

/-! ### readings and rules -/
/-- e.f, an attribute of the instance -/
def tFld (K : PySem.W.Frag) (ta : TE) (f : Str) : TE := fun σ H Q => ta σ H fun x H1 => ∃ a C dx fs v, x = .ref a ∧ H1 a = some (.ins C dx fs) ∧ Cls K C ∧ NoAttr K C f ∧ fs.lookup f = some v ∧ Q v H1
/-- e.f, a constant of the class -/
def tCon (K : PySem.W.Frag) (ta : TE) (f : Str) : TE := fun σ H Q => ta σ H fun x H1 => ∃ a C dx fs v u, x = .ref a ∧ H1 a = some (.ins C dx fs) ∧ Cls K C ∧ Con K C f v u ∧ fs.lookup f = none ∧ Q v H1
/-- e.f = value -/
def sFld (K : PySem.W.Frag) (ta tv : TE) (f : Str) : TS := fun D σ H => tv σ H fun y H1 => ta σ H1 fun x H2 => ∃ a C dx fs, x = .ref a ∧ H2 a = some (.ins C dx fs) ∧ Cls K C ∧ NoAttr K C f ∧ fs.length < 1000 ∧
  D.nx σ (upd H2 a (.ins C dx (putF f y fs)))
/-- an augmented operator on two values -/
def InOp (X : Cx) (op : Operator) (rd : V → V → Hp → VK → Prop) : Prop :=
  ∀ (pins : List (Addr × Obj)) (s : Shared) (σ : St) (H : Hp) (x y : V) (u v : Value) (Q : VK), Inv X pins σ H s → RelV x u → RelV y v → rd x y H Q → wpAny (model X.prog X.w) X.A (inplaceOp op u v) (EP X pins σ Q) X.xe s
/-- e.f op= value -/
def sFldAug (K : PySem.W.Frag) (ta tv : TE) (rd : V → V → Hp → VK → Prop) (f : Str) : TS := fun D σ H => ta σ H fun x H1 => ∃ a C dx fs v, x = .ref a ∧ H1 a = some (.ins C dx fs) ∧ Cls K C ∧ NoAttr K C f ∧ fs.lookup f = some v ∧
  tv σ H1 fun y H2 => rd v y H2 fun z H3 => ∃ dx' fs', H3 a = some (.ins C dx' fs') ∧ fs'.length < 1000 ∧ D.nx σ (upd H3 a (.ins C dx' (putF f z fs')))

section
variable {X : Cx} {o e value : Expr} {f : Str} {pos pos' tpos : Pos} {ta tv : TE}
theorem pe_fld (he : PE X e ta) (hb : attributeBase e f X.env (eval e X.env) = eval e X.env) : PE X (.Attribute e f pos) (tFld X.K ta f) := by
  intro pins s σ H Q I h
  refine attr_of hb (thn (he pins s σ H _ I h) fun u s1 ⟨x, H1, I1, rx, a, C, dx, fs, v, ex, ea, c, n, l, q⟩ => ?_)
  subst ex
  obtain rfl : u = Value.ref a := rx
  exact getattr_ok I1 ea c n l fun u' s2 I2 ru => ⟨v, H1, I2, ru, q⟩
theorem pe_con (he : PE X e ta) (hb : attributeBase e f X.env (eval e X.env) = eval e X.env) : PE X (.Attribute e f pos) (tCon X.K ta f) := by
  intro pins s σ H Q I h
  refine attr_of hb (thn (he pins s σ H _ I h) fun u s1 ⟨x, H1, I1, rx, a, C, dx, fs, v, u0, ex, ea, c, k, l, q⟩ => ?_)
  subst ex
  obtain rfl : u = Value.ref a := rx
  exact getcon_ok I1 ea c k l fun s2 I2 => ⟨v, H1, I2, k.rel, q⟩
theorem ps_fld (ha : PE X o ta) (hv : PE X value tv) (hs : swapsWith value (some (.Attribute o f pos')) pos.line X.env = pure false) : PS X (.Assign [.Attribute o f pos'] value pos) (sFld X.K ta tv f) := by
  intro pins s σ H D I h
  refine plainObj_wpAny_Assign_Attribute (thn (hv pins s σ H _ I h) fun u s1 ⟨y, H1, I1, ry, q⟩ => thn (ha pins s1 σ H1 _ I1 q) fun ov s2 ⟨x, H2, I2, rx, a, C, dx, fs, ex, ea, c, n, l, q2⟩ => ?_) hs
  subst ex
  obtain rfl : ov = Value.ref a := rx
  exact setattr_ok I2 ea c n l ry fun s3 I3 => ⟨σ, _, I3, q2⟩
theorem ps_fldaug {op : Operator} {rd : V → V → Hp → VK → Prop} (ha : PE X o ta) (hv : PE X value tv) (hop : InOp X op rd) : PS X (.AugAssign (.Attribute o f tpos) op value pos) (sFldAug X.K ta tv rd f) := by
  intro pins s σ H D I h
  refine wpAny_AugAssign_AttributeAny (thn (ha pins s σ H _ I h) fun ov s1 ⟨x, H1, I1, rx, a, C, dx, fs, v, ex, ea, c, n, l, q⟩ => ?_)
  subst ex
  obtain rfl : ov = Value.ref a := rx
  refine getattr_ok I1 ea c n l fun u s2 I2 ru => thn (hv pins s2 σ H1 _ I2 q) fun w3 s3 ⟨y, H2, I3, ry, q3⟩ => thn (hop pins s3 σ H2 v y u w3 _ I3 ru ry q3) fun w4 s4 ⟨z, H3, I4, rz, dx', fs', ea', l', q4⟩ => ?_
  exact setattr_ok I4 ea' c n l' rz fun s5 I5 => ⟨σ, _, I5, q4⟩
def rAdd : V → V → Hp → VK → Prop := fun x y H Q => ∃ i j, x = .int i ∧ y = .int j ∧ Q (.int (i + j)) H
def rSub : V → V → Hp → VK → Prop := fun x y H Q => ∃ i j, x = .int i ∧ y = .int j ∧ Q (.int (i - j)) H
theorem in_add : InOp X .Add rAdd := by
  rintro pins s σ H x y u v Q I rx ry ⟨i, j, rfl, rfl, q⟩
  obtain ⟨t, rfl⟩ := (show ∃ t, u = Value.int i t from rx)
  obtain ⟨t', rfl⟩ := (show ∃ t', v = Value.int j t' from ry)
  exact PyProof.Rows.iadd_int ⟨.int (i + j), H, I.tok _, ⟨_, rfl⟩, q⟩
theorem in_sub : InOp X .Sub rSub := by
  rintro pins s σ H x y u v Q I rx ry ⟨i, j, rfl, rfl, q⟩
  obtain ⟨t, rfl⟩ := (show ∃ t, u = Value.int i t from rx)
  obtain ⟨t', rfl⟩ := (show ∃ t', v = Value.int j t' from ry)
  exact PyProof.Rows.isub_int ⟨.int (i - j), H, I.tok _, ⟨_, rfl⟩, q⟩

/-- what is between an instance and its method: the tree of a method call -/
theorem methcall_of {pl : Sem Bool} {m : Str} {apos : Pos} {args : List Expr} {pins : List (Addr × Obj)} {s : Shared} {σ : St} {H : Hp} {Q : Value → Shared → Prop} {te : TE} (he : PE X e te) (I : Inv X pins σ H s)
    (h : te σ H fun x H1 => ∃ a C dx fs g, x = .ref a ∧ H1 a = some (.ins C dx fs) ∧ Cls X.K C ∧ Meth X.K C m g ∧ fs.lookup m = none ∧
      ∀ s1, Inv X pins σ H1 s1 → wpAny (model X.prog X.w) X.A (callWith pos (.ref g) [.ref a] (backTo pos (starEach args X.env)) (backToKw pos (keywordEach [] X.env))) Q X.xe s1)
    (ht : eval (.Call (.Attribute e m apos) args [] pos) X.env = (do
      let ov ← eval e X.env
      standAt apos.atName
      let (f, first) ← holding [ov] (getMethod ov m pl)
      callWith pos f first (backTo pos (starEach args X.env)) (backToKw pos (keywordEach [] X.env)))) :
    wpAny (model X.prog X.w) X.A (eval (.Call (.Attribute e m apos) args [] pos) X.env) Q X.xe s := by
  refine PySem.W.methodCall_KW (pl := pl) (thn (he pins s σ H _ I h) fun u s1 ⟨x, H1, I1, rx, a, C, dx, fs, g, ex, ea, c, k, l, q⟩ => ?_) ht
  subst ex
  obtain rfl : u = Value.ref a := rx
  exact getmeth_ok I1 ea c k l (q s1 I1)
end

/-! ### isinstance -/
section
variable {X : Cx} {pins : List (Addr × Obj)} {σ : St} {H : Hp} {s : Shared} {A : Around} {E : Value → Shared → Prop} {Q : Value → Shared → Prop} {c : Value} {b : Bool}
/-- the type of a value, as the fragment's deciders take it; for an instance its class -/
inductive TyOf (K : PySem.W.Frag) (H : Hp) : V → Value → Prop where
  | non : TyOf K H .non (.type "NoneType")
  | bl (x : Bool) : TyOf K H (.bl x) (.type "bool")
  | int (i : Int) : TyOf K H (.int i) (.type "int")
  | str (x : Str) : TyOf K H (.str x) (.type "str")
  | flt (x : UInt64) : TyOf K H (.flt x) (.type "float")
  | lst {a : Addr} {xs : List V} (e : H a = some (.lst xs)) : TyOf K H (.ref a) (.type "list")
  | frz {a : Addr} {o : Obj} {xs : List V} (e : H a = some (.frz o (.lst xs))) : TyOf K H (.ref a) (.type "list")
  | tup {a : Addr} {xs : List V} (e : H a = some (.tup xs)) : TyOf K H (.ref a) (.type "tuple")
  | dK {a : Addr} {kvs : List (Key × V)} (e : H a = some (.dK kvs)) : TyOf K H (.ref a) (.type "dict")
  | dT {a : Addr} {kvs : List (List Key × V)} (e : H a = some (.dT kvs)) : TyOf K H (.ref a) (.type "dict")
  | ins {a C dx : Addr} {fs : List (Str × V)} (e : H a = some (.ins C dx fs)) (cl : Cls K C) (ha : PySem.W.findIn K (.ref C) "__class__" = some (some (.builtin "object.__class__")))
      (hn : PySem.W.specialIn K (.builtin "object.__class__") "__get__" = some (some (.builtin "getset_descriptor.__get__"))) (htk : PySem.W.takesIn K (.builtin "object.__class__") = some true)
      (hm : PySem.W.mroIn K C (.type "object") = some true) : TyOf K H (.ref a) (.ref C)
/-- isinstance(x, c) for one class c, a built-in or an own one: kitOne's answer -/
theorem isinst_ok {x : V} {u t : Value} (I : Inv X pins σ H s) (rx : RelV x u) (ty : TyOf X.K H x t) (e : PySem.W.kitOne X.K t c = some b) (h : ∀ tk, Q (.bool b) { s with toks := tk }) :
    wpAny (model X.prog X.w) A (call (.builtin "isinstance") [u, c]) Q E s := by
  cases ty with
  | non => cases (show u = Value.none from rx); exact PySem.W.kia_one PySem.W.kitx_none I.kIn True.intro e (fun z => nomatch z) h
  | bl y => cases (show u = Value.bool y from rx); exact PySem.W.kia_one PySem.W.kitx_bool I.kIn True.intro e (fun z => nomatch z) h
  | int i => obtain ⟨t, q⟩ := (show ∃ t, u = Value.int i t from rx); cases q; exact PySem.W.kia_one PySem.W.kitx_int I.kIn True.intro e (fun z => nomatch z) h
  | str y => obtain ⟨t, q⟩ := (show ∃ t, u = Value.str y t from rx); cases q; exact PySem.W.kia_one PySem.W.kitx_str I.kIn True.intro e (fun z => nomatch z) h
  | flt y => obtain ⟨t, q⟩ := (show ∃ t, u = Value.float y t from rx); cases q; exact PySem.W.kia_one PySem.W.kitx_float I.kIn True.intro e (fun z => nomatch z) h
  | @lst a xs ea =>
    cases (show u = Value.ref a from rx)
    obtain ⟨_, _, n, _, h1⟩ := (show ObjOk X.prog X.w H s.heap a (.lst xs) from I.hok a _ ea)
    exact PySem.W.kia_one PySem.W.kitx_list I.kIn ⟨_, h1, rfl⟩ e (fun z => nomatch z) h
  | @frz a ob xs ea =>
    cases (show u = Value.ref a from rx)
    obtain ⟨_, _, _, n, _, h1⟩ := (show ObjOk X.prog X.w H s.heap a (.frz ob (.lst xs)) from I.hok a _ ea)
    exact PySem.W.kia_one PySem.W.kitx_list I.kIn ⟨_, h1, rfl⟩ e (fun z => nomatch z) h
  | @tup a xs ea =>
    cases (show u = Value.ref a from rx)
    obtain ⟨_, _, _, p⟩ := (show ObjOk X.prog X.w H s.heap a (.tup xs) from I.hok a _ ea)
    obtain ⟨o, h1, h2, _⟩ := p
    exact PySem.W.kia_one PySem.W.kitx_tuple I.kIn ⟨o, h1, h2⟩ e (fun z => nomatch z) h
  | @dK a kvs ea =>
    cases (show u = Value.ref a from rx)
    obtain ⟨_, _, vs, _, p⟩ := (show ObjOk X.prog X.w H s.heap a (.dK kvs) from I.hok a _ ea)
    obtain ⟨o, es, ep, h1, h2, _⟩ := p
    exact PySem.W.kia_one PySem.W.kitx_dict I.kIn ⟨o, h1, h2.1⟩ e (fun z => nomatch z) h
  | @dT a kvs ea =>
    cases (show u = Value.ref a from rx)
    obtain ⟨_, _, xs, _, o, es, ep, h1, h2, _⟩ := (show ObjOk X.prog X.w H s.heap a (.dT kvs) from I.hok a _ ea)
    exact PySem.W.kia_one PySem.W.kitx_dict I.kIn ⟨o, h1, h2.1⟩ e (fun z => nomatch z) h
  | @ins a C dx fs ea cl ha hn htk hm =>
    cases (show u = Value.ref a from rx)
    obtain ⟨mA, O, _⟩ := ins_get I.hok ea
    obtain ⟨od, J, _⟩ := O.look
    exact PySem.W.kia_one (PySem.W.kitx_own (cl.get _) cl.hd ha hn htk hm) I.kIn J e (fun z => nomatch z) h
end
end L2

namespace L2
open PySem PySem.Spec PyProof.Rows

/-! ### room -/
structure Room (k : Nat) (A : Around) : Prop where
  hd : A.handled = none
  dp : A.depth + 3 * k + 5 < recursionLimit
  un : A.units + 16 * k + 200 < cLine
theorem Room.mono {j k : Nat} {A : Around} (r : Room k A) (h : j ≤ k) : Room j A := ⟨r.hd, by have := r.dp; omega, by have := r.un; omega⟩
theorem Room.deeper {k : Nat} {A : Around} (r : Room (k + 1) A) (env : Env) : Room k (A.deeper env) :=
  ⟨r.hd, by have := r.dp; show A.depth + 1 + 3 * k + 5 < _; omega, by have := r.un; show A.units + 3 + 16 * k + 200 < _; omega⟩
theorem Room.in1 {k : Nat} {A : Around} (r : Room (k + 1) A) : Room k A.in1 :=
  ⟨r.hd, by have := r.dp; show A.depth + 3 * k + 5 < _; omega, by have := r.un; show A.units + 1 + 16 * k + 200 < _; omega⟩
theorem make_depth {A : Around} {C : Addr} {us : List Value} {kw : List (Str × Value)} : (A.under (.builtin "type.__call__" ⟨.ref C :: us, kw⟩)).depth = A.depth + 1 := by
  first | rfl | simp [Around.under, Code.weight, Code.isCreation, Code.isGuard, Code.isCaller, Code.frames, Code.isFrame, guardIds]
theorem make_units {A : Around} {C : Addr} {us : List Value} {kw : List (Str × Value)} : (A.under (.builtin "type.__call__" ⟨.ref C :: us, kw⟩)).units = A.units + 1 := by
  first | rfl | simp [Around.under, Code.cUnits, Code.frames, Code.isFrame]
theorem Room.make {k : Nat} {A : Around} (r : Room (k + 1) A) (C : Addr) (us : List Value) (kw : List (Str × Value)) : Room k (A.under (.builtin "type.__call__" ⟨.ref C :: us, kw⟩)) :=
  ⟨r.hd, by have := r.dp; rw [make_depth]; omega, by have := r.un; rw [make_units]; omega⟩
theorem Room.depth {k : Nat} {A : Around} (r : Room k A) : A.depth < recursionLimit := by have := r.dp; omega
theorem Room.units {k : Nat} {A : Around} (r : Room k A) : A.units + 64 < cLine := by have := r.un; omega
theorem Room.units0 {k : Nat} {A : Around} (r : Room k A) : A.units < cLine := by have := r.un; omega

/-! ### argument lists and displays -/
def tNil : TA := fun _ H Q => Q [] H
def tCons (ta : TE) (tr : TA) : TA := fun σ H Q => ta σ H fun x H1 => tr σ H1 fun xs H2 => Q (x :: xs) H2
section
variable {X : Cx} {e : Expr} {es : List Expr} {te : TE} {t : TA} {pos : Pos}
theorem pa_nil : PA X [] tNil := fun _ _ _ _ H Q I h => Calls.spliced_nil ⟨[], H, I, .nil, h⟩
theorem pa_cons (ha : PE X e te) (hr : PA X es t) (hs : starEach (e :: es) X.env = (false, eval e X.env) :: starEach es X.env := by rfl) : PA X (e :: es) (tCons te t) := by
  intro pos pins s σ H Q I h
  rw [hs]
  show wpAny _ _ (spliced ((false, eval e X.env) :: backTo pos (starEach es X.env))) _ _ s
  refine Calls.spliced_cons (thn (ha pins s σ H _ I h) fun u s1 ⟨x, H1, I1, r1, q1⟩ => ?_)
  exact thn (hr pos pins s1 σ H1 _ I1 q1) fun us s2 ⟨xs, H2, I2, r2, q2⟩ => ⟨x :: xs, H2, I2, .cons r1 r2, q2⟩

/-- a tuple, a list of written items -/
def tTup (t : TA) : TE := fun σ H Q => t σ H fun xs H1 => xs.length ≤ sizeLine ∧ ∀ p, H1 p = none → Q (.ref p) (upd H1 p (.tup xs))
def tLst (t : TA) : TE := fun σ H Q => t σ H fun xs H1 => xs.length ≤ sizeLine ∧ ∀ p, H1 p = none → Q (.ref p) (upd H1 p (.lst xs))
theorem pe_tup {x1} (h : PA X es t) : PE X (.Tuple es x1 pos) (tTup t) := by
  intro pins s σ H Q I hq
  refine wpAny_Tuple_spliced (thn (h pos pins s σ H _ I hq) fun us s1 ⟨xs, H1, I1, r, z, q⟩ => ⟨by rw [← r.length]; exact z, ?_⟩)
  have hf : H1 s1.heap.objs.size = none := I1.hok.fresh (Nat.le_refl _)
  refine ⟨.ref s1.heap.objs.size, upd H1 s1.heap.objs.size (.tup xs), I1.laid (t' := s1.toks) (fun b u e => Heap.get?_push_of_some _ e) (Nat.le_refl _) ?_, rfl, q _ hf⟩
  exact ⟨z, us, r, ⟨_, Heap.get?_push_size _ rfl, rfl, _, rfl⟩⟩
theorem pe_lst (h : PA X es t) : PE X (.List es pos) (tLst t) := by
  intro pins s σ H Q I hq
  refine wpAny_List_spliced (thn (h pos pins s σ H _ I hq) fun us s1 ⟨xs, H1, I1, r, z, q⟩ => ⟨by rw [← r.length]; exact z, ?_⟩)
  have hf : H1 s1.heap.objs.size = none := I1.hok.fresh (Nat.le_refl _)
  refine ⟨.ref s1.heap.objs.size, upd H1 s1.heap.objs.size (.lst xs), I1.laid (t' := s1.toks) (fun b u e => Heap.get?_push_of_some _ e) (Nat.le_refl _) ?_, rfl, q _ hf⟩
  exact ⟨z, us, 0, r, Heap.get?_push_size _ rfl⟩
end

/-! ### what a def promises -/
/-- a def's promise: the bound arguments in the parameters' order, the heap, the wanted end, the wanted exception -/
abbrev Sp := List V → Hp → VK → XK → Prop
/-- how an exception lies behind a call (file 08 gives it): the callers' frames, abstract heap and state ahead of the call, the wish, the exception, the state -/
abbrev CXT := List Env → Hp → Shared → XK → Value → Shared → Prop

/-- the state at a call -/
structure Env0 (P : Program) (w : World) (K : PySem.W.Frag) (mg : Str → Option Value) (base : Heap) (A : Around) (outer : List Env) (s : Shared) (H : Hp) : Prop where
  frames : A.frames = some outer
  mod : Mod K mg base
  bs : ∀ b o, base.get? b = some o → s.heap.get? b = some o ∧ H b = none
  bsz : base.objs.size ≤ s.heap.objs.size
  funs : s.heap.FunFrames base outer
  frf : ∀ b ∈ frs outer, H b = none
  hok : HOk P w H s.heap
  bare : AllBare s.gens
/-- a call's end -/
def CE (outer : List Env) (P : Program) (w : World) (H : Hp) (s : Shared) (Q : VK) (u : Value) (s' : Shared) : Prop :=
  ∃ v H', s'.os = s.os ∧ AllBare s'.gens ∧ Un (frs outer) [] H H' s.heap s'.heap ∧ HOk P w H' s'.heap ∧ RelV v u ∧ Q v H'
def CR (CX : CXT) (outer : List Env) (P : Program) (w : World) (H : Hp) (s : Shared) (Q : VK) (E : XK) (r : Result) (s' : Shared) : Prop :=
  match r with
  | .ok (.ret u) => CE outer P w H s Q u s'
  | .ok _ => False
  | .error e => CX outer H s E e s'
structure FnOk (P : Program) (w : World) (K : PySem.W.Frag) (mg : Str → Option Value) (base : Heap) (CX : CXT) (k : Nat) (f : Addr) (fd : FuncData) (ps : List Str) (sp : Sp) : Prop where
  len : ∀ vs H Q E, sp vs H Q E → vs.length = ps.length
  run : ∀ (A : Around) (outer : List Env) (s : Shared) (H : Hp) (args : Args) (us : List Value) (vs : List V) (Q : VK) (E : XK), Room k A → Env0 P w K mg base A outer s H → BindsTo s fd args (ps.zip us) → Vals vs us → sp vs H Q E →
    codeAny (model P w) A (.call (.ref f) args) (CR CX outer P w H s Q E) s
theorem FnOk.mono {P : Program} {w : World} {K : PySem.W.Frag} {mg : Str → Option Value} {base : Heap} {CX : CXT} {j k : Nat} {f : Addr} {fd : FuncData} {ps : List Str} {sp : Sp} (F : FnOk P w K mg base CX j f fd ps sp) (h : j ≤ k) :
    FnOk P w K mg base CX k f fd ps sp := ⟨F.len, fun A outer s H args us vs Q E hr => F.run A outer s H args us vs Q E (hr.mono h)⟩
/-- a weaker promise -/
theorem FnOk.imp {P : Program} {w : World} {K : PySem.W.Frag} {mg : Str → Option Value} {base : Heap} {CX : CXT} {k : Nat} {f : Addr} {fd : FuncData} {ps : List Str} {sp sp' : Sp} (F : FnOk P w K mg base CX k f fd ps sp)
    (h : ∀ vs H Q E, sp' vs H Q E → sp vs H Q E) : FnOk P w K mg base CX k f fd ps sp' :=
  ⟨fun vs H Q E q => F.len vs H Q E (h _ _ _ _ q), fun A outer s H args us vs Q E hr he hb hv hs => F.run A outer s H args us vs Q E hr he hb hv (h _ _ _ _ hs)⟩

theorem Env0.make {P : Program} {w : World} {K : PySem.W.Frag} {mg : Str → Option Value} {base : Heap} {A : Around} {outer : List Env} {s : Shared} {H : Hp} (e : Env0 P w K mg base A outer s H) (C : Addr) (us : List Value) (kw : List (Str × Value)) :
    Env0 P w K mg base (A.under (.builtin "type.__call__" ⟨.ref C :: us, kw⟩)) outer s H := ⟨by first | exact e.frames | (simpa [Around.under, Code.envs, Code.isFrame, pushEnvs] using e.frames), e.mod, e.bs, e.bsz, e.funs, e.frf, e.hok, e.bare⟩
theorem Env0.in1 {P : Program} {w : World} {K : PySem.W.Frag} {mg : Str → Option Value} {base : Heap} {A : Around} {outer : List Env} {s : Shared} {H : Hp} (e : Env0 P w K mg base A outer s H) :
    Env0 P w K mg base A.in1 outer s H := ⟨e.frames, e.mod, e.bs, e.bsz, e.funs, e.frf, e.hok, e.bare⟩

section
variable {X : Cx} {pins : List (Addr × Obj)} {σ : St} {H : Hp} {s s' : Shared}
/-- from a body: what a callee wants -/
theorem Inv.env0 (I : Inv X pins σ H s) : Env0 X.prog X.w X.K X.mg X.base X.A X.stack s H :=
  ⟨I.ok.frames, I.ok.mod, I.bs, Nat.le_trans I.ok.bsz I.sz, I.stack, I.stkFree, I.hok, I.bare⟩
/-- behind a call -/
theorem Inv.after {Q : VK} {u : Value} (I : Inv X pins σ H s) (h : CE X.stack X.prog X.w H s Q u s') : EP X pins σ Q u s' := by
  obtain ⟨v, H', os, bare, un, hok, r, q⟩ := h
  obtain ⟨hh, g, d, t, os'⟩ := s'
  obtain rfl : os' = s.os := os
  exact ⟨v, H', I.call (h' := hh) (g' := g) (d' := d) (t' := t) (ch := []) un hok bare (fun b z => absurd z (by simp)), r, q⟩
end

/-! ### calls -/
/-- f(..): the written arguments, then the defaults dvs; E: what is wanted of an exception -/
def tCall (sp : Sp) (dvs : List V) (E : XK) (t : TA) : TE := fun σ H Q => t σ H fun vs H1 => sp (vs ++ dvs) H1 Q E
/-- o.m(..) of an instance of the class at C -/
def tMeth (C : Addr) (m : Str) (sp : Sp) (dvs : List V) (E : XK) (ta : TE) (t : TA) : TE := fun σ H Q => ta σ H fun x H1 => ∃ a dx fs, x = .ref a ∧ H1 a = some (.ins C dx fs) ∧ fs.lookup m = none ∧
  t σ H1 fun vs H2 => sp (x :: (vs ++ dvs)) H2 Q E
/-- C(..): a new instance and its dict, then __init__ -/
def tMake (C : Addr) (sp : Sp) (dvs : List V) (E : XK) (t : TA) : TE := fun σ H Q => t σ H fun vs H1 => ∀ x dx, H1 x = none → H1 dx = none → dx ≠ x →
  sp (.ref x :: (vs ++ dvs)) (upd (upd H1 dx (.own x)) x (.ins C dx [])) (fun v H2 => v = .non ∧ Q (.ref x) H2) E

/-- how the parameters are bound: us the positional arguments, kw the keywords' values by name, ds the defaults that fill up -/
def Binds (K : PySem.W.Frag) (fd : FuncData) (ps : List Str) (ds : List Value) : Prop :=
  ∀ (s : Shared) (us : List Value), K.In s.heap → (us ++ ds).length = ps.length → BindsTo s fd ⟨us, []⟩ (ps.zip (us ++ ds))
/-- every parameter is given -/
theorem Binds.all {K : PySem.W.Frag} {fd : FuncData} {ps : List Str} (h : ∀ us : List Value, us.length = ps.length → bindArgs fd ⟨us, []⟩ = pure (ps.zip us)) : Binds K fd ps [] := fun s us _ hl => by
  rw [List.append_nil] at hl ⊢
  exact .of_eq (h us hl)

/-- an exception of a callee reaches what this body wants of exceptions -/
def Passes (CX : CXT) (X : Cx) (E : XK) : Prop := ∀ (pins : List (Addr × Obj)) (σ : St) (H : Hp) (s : Shared) (e : Value) (s' : Shared), Inv X pins σ H s → CX X.stack H s E e s' → X.xe e s'

section
variable {X : Cx} {CX : CXT} {k : Nat} {f C : Addr} {fd : FuncData} {ps : List Str} {sp : Sp} {dvs : List V} {ds : List Value} {E : XK} {x m : Str} {p pos apos : Pos} {e o : Expr} {es : List Expr} {ta : TE} {t : TA}

/-- the callee runs -/
theorem run_fn {pins : List (Addr × Obj)} {σ : St} {H : Hp} {s : Shared} {Q : VK} {us : List Value} {vs : List V} (F : FnOk X.prog X.w X.K X.mg X.base CX k f fd ps sp) (hr : Room k X.A) (hb : Binds X.K fd ps ds) (hd : Vals dvs ds) (hx : Passes CX X E)
    (I : Inv X pins σ H s) (r : Vals vs us) (h : sp (vs ++ dvs) H Q E) : wpAny (model X.prog X.w) X.A (call (.ref f) us) (EP X pins σ Q) X.xe s := by
  have r2 : Vals (vs ++ dvs) (us ++ ds) := r.append hd
  have hl : (us ++ ds).length = ps.length := by rw [← r2.length]; exact F.len _ _ _ _ h
  refine wpAny_call (codeAny_mono (F.run X.A X.stack s H ⟨us, []⟩ (us ++ ds) (vs ++ dvs) Q E hr I.env0 (hb s us I.kIn hl) r2 h) fun r s' hq => ?_)
  cases r with
  | error e => exact hx pins σ H s e s' I hq
  | ok fl =>
    cases fl with
    | ret u => exact I.after hq
    | next => exact False.elim hq
    | brk => exact False.elim hq
    | cont => exact False.elim hq

theorem pe_call (F : FnOk X.prog X.w X.K X.mg X.base CX k f fd ps sp) (hr : Room k X.A) (hg : Gl X x) (hm : X.mg x = some (.ref f)) (hk : PySem.W.keepIn X.K (.ref f) = true) (hb : Binds X.K fd ps ds) (hd : Vals dvs ds) (hx : Passes CX X E)
    (ha : PA X (e :: es) t) (hdb : (x == ("__debug__" : Str)) = false := by decide) (he : starEach (e :: es) X.env = (false, eval e X.env) :: starEach es X.env := by rfl) (hpl : (backTo pos (starEach es X.env)).any (·.1) = false := by rfl) :
    PE X (.Call (.Name x p) (e :: es) [] pos) (tCall sp dvs E t) := by
  intro pins s σ H Q I h
  refine wpAny_Call_Name_kw (ld_glob I hg hm ?_ hdb)
  refine PySem.W.callWith_K (h₀ := X.base) I.ok.mod.kin hk (thn (ha pos pins s σ H _ I h) fun us s1 ⟨vs, H1, I1, r, q⟩ => ⟨I1.kIn, ?_⟩) he hpl
  exact run_fn F hr hb hd hx I1 r q
theorem pe_call0 (F : FnOk X.prog X.w X.K X.mg X.base CX k f fd ps sp) (hr : Room k X.A) (hg : Gl X x) (hm : X.mg x = some (.ref f)) (hk : PySem.W.keepIn X.K (.ref f) = true) (hb : Binds X.K fd ps ds) (hd : Vals dvs ds) (hx : Passes CX X E)
    (hdb : (x == ("__debug__" : Str)) = false := by decide) : PE X (.Call (.Name x p) [] [] pos) (tCall sp dvs E tNil) := by
  intro pins s σ H Q I h
  refine wpAny_Call_Name_kw (ld_glob I hg hm ?_ hdb)
  exact PySem.W.callWith_K0 I.kIn hk (run_fn (us := []) F hr hb hd hx I .nil h)

/-- o.m(e, ..) -/
theorem pe_meth {pl : Sem Bool} (he : PE X o ta) (c : Cls X.K C) (hm : Meth X.K C m f) (F : FnOk X.prog X.w X.K X.mg X.base CX k f fd ps sp) (hr : Room k X.A) (hb : Binds X.K fd ps ds) (hd : Vals dvs ds) (hx : Passes CX X E) (ha : PA X (e :: es) t)
    (hst : starEach (e :: es) X.env = (false, eval e X.env) :: starEach es X.env := by rfl) (hpl : (backTo pos (starEach es X.env)).any (·.1) = false := by rfl)
    (ht : eval (.Call (.Attribute o m apos) (e :: es) [] pos) X.env = (do
      let ov ← eval o X.env
      standAt apos.atName
      let (f, first) ← holding [ov] (getMethod ov m pl)
      callWith pos f first (backTo pos (starEach (e :: es) X.env)) (backToKw pos (keywordEach [] X.env))) := by rfl) :
    PE X (.Call (.Attribute o m apos) (e :: es) [] pos) (tMeth C m sp dvs E ta t) := by
  intro pins s σ H Q I h
  refine PySem.W.methodCall_KW (pl := pl) (thn (he pins s σ H _ I h) fun u s1 ⟨x, H1, I1, rx, a, dx, fs, ex, ea, l, q⟩ => ?_) ht
  subst ex
  obtain rfl : u = Value.ref a := rx
  refine getmeth_ok I1 ea c hm l ?_
  refine PySem.W.callWith_K (first := [.ref a]) (h₀ := X.base) I.ok.mod.kin hm.kp (thn (ha pos pins s1 σ H1 _ I1 q) fun us s2 ⟨vs, H2, I2, r, q2⟩ => ⟨I2.kIn, ?_⟩) hst hpl
  exact run_fn (us := .ref a :: us) (vs := .ref a :: vs) F hr hb hd hx I2 (.cons rfl r) q2
/-- o.m() -/
theorem pe_meth0 {pl : Sem Bool} (he : PE X o ta) (c : Cls X.K C) (hm : Meth X.K C m f) (F : FnOk X.prog X.w X.K X.mg X.base CX k f fd ps sp) (hr : Room k X.A) (hb : Binds X.K fd ps ds) (hd : Vals dvs ds) (hx : Passes CX X E)
    (ht : eval (.Call (.Attribute o m apos) [] [] pos) X.env = (do
      let ov ← eval o X.env
      standAt apos.atName
      let (f, first) ← holding [ov] (getMethod ov m pl)
      callWith pos f first (backTo pos (starEach [] X.env)) (backToKw pos (keywordEach [] X.env))) := by rfl) :
    PE X (.Call (.Attribute o m apos) [] [] pos) (tMeth C m sp dvs E ta tNil) := by
  intro pins s σ H Q I h
  refine PySem.W.methodCall_KW (pl := pl) (thn (he pins s σ H _ I h) fun u s1 ⟨x, H1, I1, rx, a, dx, fs, ex, ea, l, q⟩ => ?_) ht
  subst ex
  obtain rfl : u = Value.ref a := rx
  refine getmeth_ok I1 ea c hm l ?_
  exact PySem.W.callWith_K0 (first := [.ref a]) I1.kIn hm.kp (run_fn (us := [.ref a]) (vs := [.ref a]) F hr hb hd hx I1 (.cons rfl .nil) q)

/-- what a class must have to be made -/
structure Mk (K : PySem.W.Frag) (C f : Addr) : Prop where
  makes : PySem.W.makesIn K C = true
  init : PySem.W.findIn K (.ref C) "__init__" = some (some (.ref f))
  fn : PySem.W.isFn K (.ref f) = true
  kp : PySem.W.keepIn K (.ref C) = true

theorem run_make {pins : List (Addr × Obj)} {σ : St} {H : Hp} {s : Shared} {Q : VK} {us : List Value} {vs : List V} (M : Mk X.K C f) (F : FnOk X.prog X.w X.K X.mg X.base CX k f fd ps sp) (hr : Room (k + 1) X.A) (hb : Binds X.K fd ps ds) (hd : Vals dvs ds)
    (hx : Passes CX X E) (I : Inv X pins σ H s) (r : Vals vs us)
    (h : ∀ x dx, H x = none → H dx = none → dx ≠ x → sp (.ref x :: (vs ++ dvs)) (upd (upd H dx (.own x)) x (.ins C dx [])) (fun v H2 => v = .non ∧ Q (.ref x) H2) E) :
    wpAny (model X.prog X.w) X.A (call (.ref C) us) (EP X pins σ Q) X.xe s := by
  have hq := h (s.heap.objs.size + 1) s.heap.objs.size (I.hok.fresh (Nat.le_succ _)) (I.hok.fresh (Nat.le_refl _)) (Nat.ne_of_lt (Nat.lt_succ_self _))
  have I2 := Inv.made (C := C) I
  have r2 : Vals (V.ref (s.heap.objs.size + 1) :: (vs ++ dvs)) (Value.ref (s.heap.objs.size + 1) :: (us ++ ds)) := .cons rfl (r.append hd)
  have hl : (Value.ref (s.heap.objs.size + 1) :: us ++ ds).length = ps.length := by
    have e := r2.length
    rw [F.len _ _ _ _ hq] at e
    exact e.symm
  refine wpAny_call (make_map (f := f) I.kIn M.makes M.init (beq_iff_eq.mp M.fn) (codeAny_mono (F.run _ X.stack _ _ ⟨Value.ref (s.heap.objs.size + 1) :: us, []⟩ (Value.ref (s.heap.objs.size + 1) :: (us ++ ds)) _ _ E (hr.make C us [])
    (I2.env0.make C us []) (hb _ (Value.ref (s.heap.objs.size + 1) :: us) I2.kIn hl) r2 hq) fun r s' hq' => ?_))
  cases r with
  | error e => exact hx pins σ _ _ e s' I2 hq'
  | ok fl =>
    cases fl with
    | ret u =>
      obtain ⟨v, H', I3, rv, ev, q3⟩ := I2.after hq'
      subst ev
      exact ⟨rv, ⟨V.ref (s.heap.objs.size + 1), H', I3, rfl, q3⟩⟩
    | next => exact False.elim hq'
    | brk => exact False.elim hq'
    | cont => exact False.elim hq'
theorem pe_make (M : Mk X.K C f) (F : FnOk X.prog X.w X.K X.mg X.base CX k f fd ps sp) (hr : Room (k + 1) X.A) (hg : Gl X x) (hm : X.mg x = some (.ref C)) (hb : Binds X.K fd ps ds) (hd : Vals dvs ds) (hx : Passes CX X E)
    (ha : PA X (e :: es) t) (hdb : (x == ("__debug__" : Str)) = false := by decide) (he : starEach (e :: es) X.env = (false, eval e X.env) :: starEach es X.env := by rfl) (hpl : (backTo pos (starEach es X.env)).any (·.1) = false := by rfl) :
    PE X (.Call (.Name x p) (e :: es) [] pos) (tMake C sp dvs E t) := by
  intro pins s σ H Q I h
  refine wpAny_Call_Name_kw (ld_glob I hg hm ?_ hdb)
  refine PySem.W.callWith_K (h₀ := X.base) I.ok.mod.kin M.kp (thn (ha pos pins s σ H _ I h) fun us s1 ⟨vs, H1, I1, r, q⟩ => ⟨I1.kIn, ?_⟩) he hpl
  exact run_make M F hr hb hd hx I1 r q
theorem pe_make0 (M : Mk X.K C f) (F : FnOk X.prog X.w X.K X.mg X.base CX k f fd ps sp) (hr : Room (k + 1) X.A) (hg : Gl X x) (hm : X.mg x = some (.ref C)) (hb : Binds X.K fd ps ds) (hd : Vals dvs ds) (hx : Passes CX X E)
    (hdb : (x == ("__debug__" : Str)) = false := by decide) : PE X (.Call (.Name x p) [] [] pos) (tMake C sp dvs E tNil) := by
  intro pins s σ H Q I h
  refine wpAny_Call_Name_kw (ld_glob I hg hm ?_ hdb)
  exact PySem.W.callWith_K0 I.kIn M.kp (run_make (us := []) M F hr hb hd hx I .nil h)
end

/-! ### keywords -/
/-- the values of the keywords, from the left -/
def PK (X : Cx) (kws : List Keyword) (t : TA) : Prop :=
  ∀ (pos : Pos) (pins : List (Addr × Obj)) (s : Shared) (σ : St) (H : Hp) (Q : List V → Hp → Prop), Inv X pins σ H s → t σ H Q → wpAny (model X.prog X.w) X.A (evalAll ((backToKw pos (keywordEach kws X.env)).map (·.2))) (AP X pins σ Q) X.xe s
section
variable {X : Cx} {CX : CXT} {k : Nat} {f C : Addr} {fd : FuncData} {ps ks : List Str} {sp : Sp} {E : XK} {x m : Str} {p pos apos kpos : Pos} {e o : Expr} {es : List Expr} {kws : List Keyword} {te ta : TE} {t tk : TA} {nm : Option Str}
theorem pk_nil : PK X [] tNil := fun _ _ _ _ H Q I h => wpAny_evalAll_nil ⟨[], H, I, .nil, h⟩
theorem pk_cons (ha : PE X e te) (hr : PK X kws t) : PK X (⟨nm, e, kpos⟩ :: kws) (tCons te t) := by
  intro pos pins s σ H Q I h
  show wpAny _ _ (evalAll ((do let v ← eval e X.env; standAt pos; pure v) :: (backToKw pos (keywordEach kws X.env)).map (·.2))) _ _ s
  refine wpAny_evalAll_cons (wpAny_bind (thn (ha pins s σ H _ I h) fun u s1 ⟨x, H1, I1, r1, q1⟩ => wpAny_bind (wpAny_standAt (wpAny_pure ?_))))
  exact thn (hr pos pins s1 σ H1 _ I1 q1) fun us s2 ⟨xs, H2, I2, r2, q2⟩ => ⟨x :: xs, H2, I2, .cons r1 r2, q2⟩

/-- how a call with keywords binds: g puts the positional values us and the keywords' values ws (names ks) in the parameters' order, defaults among them -/
structure KBinds (K : PySem.W.Frag) (fd : FuncData) (ps ks : List Str) (g : List Value → List Value → List Value) (gV : List V → List V → List V) : Prop where
  to : ∀ (s : Shared) (us ws : List Value), K.In s.heap → (g us ws).length = ps.length → BindsTo s fd ⟨us, ks.zip ws⟩ (ps.zip (g us ws))
  rel : ∀ {vs : List V} {us : List Value} {zs : List V} {ws : List Value}, Vals vs us → Vals zs ws → Vals (gV vs zs) (g us ws)
def tCallK (sp : Sp) (gV : List V → List V → List V) (E : XK) (t tk : TA) : TE := fun σ H Q => t σ H fun vs H1 => tk σ H1 fun zs H2 => sp (gV vs zs) H2 Q E
variable {g : List Value → List Value → List Value} {gV : List V → List V → List V}
theorem run_fnk {pins : List (Addr × Obj)} {σ : St} {H : Hp} {s : Shared} {Q : VK} {us ws : List Value} {vs zs : List V} (F : FnOk X.prog X.w X.K X.mg X.base CX k f fd ps sp) (hr : Room k X.A) (hb : KBinds X.K fd ps ks g gV) (hx : Passes CX X E)
    (I : Inv X pins σ H s) (r : Vals vs us) (rz : Vals zs ws) (h : sp (gV vs zs) H Q E) : wpAny (model X.prog X.w) X.A (call (.ref f) us (ks.zip ws)) (EP X pins σ Q) X.xe s := by
  have r2 := hb.rel r rz
  have hl : (g us ws).length = ps.length := by rw [← r2.length]; exact F.len _ _ _ _ h
  refine wpAny_call (codeAny_mono (F.run X.A X.stack s H ⟨us, ks.zip ws⟩ (g us ws) (gV vs zs) Q E hr I.env0 (hb.to s us ws I.kIn hl) r2 h) fun r s' hq => ?_)
  cases r with
  | error e => exact hx pins σ H s e s' I hq
  | ok fl =>
    cases fl with
    | ret u => exact I.after hq
    | next => exact False.elim hq
    | brk => exact False.elim hq
    | cont => exact False.elim hq
/-- f(e, .., k = v, ..) -/
theorem pe_callK (F : FnOk X.prog X.w X.K X.mg X.base CX k f fd ps sp) (hr : Room k X.A) (hg : Gl X x) (hm : X.mg x = some (.ref f)) (hk : PySem.W.keepIn X.K (.ref f) = true) (hb : KBinds X.K fd ps ks g gV) (hx : Passes CX X E)
    (ha : PA X (e :: es) t) (hkw : PK X kws tk) (hall : (backToKw pos (keywordEach kws X.env)).all (·.1.isSome) = true := by rfl) (hks : (backToKw pos (keywordEach kws X.env)).filterMap (·.1) = ks := by rfl)
    (hdb : (x == ("__debug__" : Str)) = false := by decide) (he : starEach (e :: es) X.env = (false, eval e X.env) :: starEach es X.env := by rfl)
    (hpl : ((backTo pos (starEach (e :: es) X.env)).any (·.1) || (backToKw pos (keywordEach kws X.env)).any (·.1.isNone)) = false := by rfl) :
    PE X (.Call (.Name x p) (e :: es) kws pos) (tCallK sp gV E t tk) := by
  intro pins s σ H Q I h
  refine wpAny_Call_Name_kw (ld_glob I hg hm ?_ hdb)
  refine PySem.W.callWith_KW (h₀ := X.base) I.ok.mod.kin hk hall (thn (ha pos pins s σ H _ I h) fun us s1 ⟨vs, H1, I1, r, q⟩ => ?_) hpl he
  refine thn (hkw pos pins s1 σ H1 _ I1 q) fun ws s2 ⟨zs, H2, I2, rz, q2⟩ => ⟨I2.kIn, ?_⟩
  rw [hks]
  exact run_fnk F hr hb hx I2 r rz q2
end

/-! ### a def's body keeps its promise -/
/-- names: the parameters first -/
structure FnScope (N P : List Str) (sc : Scope) : Prop where
  kind : sc.kind = .function
  co : sc.isCoroutine = false
  gen : sc.isGenerator = false
  nd : N.Nodup
  pre : N.take P.length = P
  par : ∀ x ∈ P, sc.names.lookup x = some .local ∨ sc.names.lookup x = some .cell
  nofree : ∀ y ∈ sc.names, y.2 ≠ .free

theorem bindL_out {kindOf : Str → Option NameKind} {x : Str} : ∀ {binds : List (Str × Value)} {m : Str → Option Value}, (∀ v, (x, v) ∉ binds) → bindL kindOf binds m x = m x
  | [], _, _ => rfl
  | (n, v) :: r, m, h => by
    unfold bindL
    rw [bindL_out fun w hw => h w (List.mem_cons_of_mem _ hw)]
    split
    · have : x ≠ n := by rintro rfl; exact h v List.mem_cons_self
      simp [this]
    · rfl
theorem bindC_out {kindOf : Str → Option NameKind} {x : Str} : ∀ {binds : List (Str × Value)} {m : Str → Option Value}, (∀ v, (x, v) ∉ binds) → bindC kindOf binds m x = m x
  | [], _, _ => rfl
  | (n, v) :: r, m, h => by
    unfold bindC
    rw [bindC_out fun w hw => h w (List.mem_cons_of_mem _ hw)]
    split
    · rfl
    · have : x ≠ n := by rintro rfl; exact h v List.mem_cons_self
      simp [this]
theorem bindL_get {kindOf : Str → Option NameKind} {x : Str} {v : Value} : ∀ {P : List Str} {vs : List Value} {i : Nat} {m : Str → Option Value}, P.Nodup → P[i]? = some x → vs[i]? = some v → kindOf x = some .local →
    bindL kindOf (P.zip vs) m x = some v
  | [], _, _, _, _, h, _, _ => by simp at h
  | _ :: _, [], _, _, _, _, h, _ => by simp at h
  | p :: P, w :: vs, 0, m, nd, h1, h2, hk => by
    simp at h1 h2; subst h1; subst h2
    show bindL kindOf ((p, w) :: P.zip vs) m p = _
    unfold bindL
    rw [bindL_out fun v hv => (List.nodup_cons.mp nd).1 (List.of_mem_zip hv).1, if_pos hk]
    simp
  | p :: P, w :: vs, i + 1, m, nd, h1, h2, hk => by
    show bindL kindOf ((p, w) :: P.zip vs) m x = _
    unfold bindL
    exact bindL_get (i := i) (List.nodup_cons.mp nd).2 (by simpa using h1) (by simpa using h2) hk
theorem bindC_get {kindOf : Str → Option NameKind} {x : Str} {v : Value} : ∀ {P : List Str} {vs : List Value} {i : Nat} {m : Str → Option Value}, P.Nodup → P[i]? = some x → vs[i]? = some v → kindOf x ≠ some .local →
    bindC kindOf (P.zip vs) m x = some v
  | [], _, _, _, _, h, _, _ => by simp at h
  | _ :: _, [], _, _, _, _, h, _ => by simp at h
  | p :: P, w :: vs, 0, m, nd, h1, h2, hk => by
    simp at h1 h2; subst h1; subst h2
    show bindC kindOf ((p, w) :: P.zip vs) m p = _
    unfold bindC
    rw [bindC_out fun v hv => (List.nodup_cons.mp nd).1 (List.of_mem_zip hv).1, if_neg hk]
    simp
  | p :: P, w :: vs, i + 1, m, nd, h1, h2, hk => by
    show bindC kindOf ((p, w) :: P.zip vs) m x = _
    unfold bindC
    exact bindC_get (i := i) (List.nodup_cons.mp nd).2 (by simpa using h1) (by simpa using h2) hk

/-- the names' values at the entry -/
def start (N : List Str) (vs : List V) : St := vs.map some ++ List.replicate (N.length - vs.length) none

/-- the context of a def's body, at its entry; an exception leaves the frame, then lies as CX says -/
def cxOf (CX : CXT) (P : Program) (w : World) (K : PySem.W.Frag) (mg : Str → Option Value) (base : Heap) (N : List Str) (qual : Str) (scope : Scope) (f : Addr) (cd : Value) (A : Around) (outer : List Env) (s : Shared) (H : Hp) (E : XK) : Cx where
  prog := P
  w := w
  K := K
  mg := mg
  base := base
  A := A.deeper (envOfC qual scope s.heap.objs.size f cd)
  N := N
  s₀ := s
  H₀ := H
  env := envOfC qual scope s.heap.objs.size f cd
  outer := outer
  stack := envOfC qual scope s.heap.objs.size f cd :: outer
  ex := []
  calm := true
  fn := fun _ => true
  pn := []
  xe := fun e s' => wpAny (model P w) (A.deeper (envOfC qual scope s.heap.objs.size f cd)) (leaving (envOfC qual scope s.heap.objs.size f cd) e) (fun _ s'' => CX outer H s E e s'') (fun e' s'' => CX outer H s E e' s'') s'

theorem cell_has {sc : Scope} {n : Nat} {x : Str} (h : sc.names.lookup x = some .cell) : ∃ c, (cellsFrom n sc.names []).lookup x = some c := by
  have q := PySem.W.cellsFrom_some sc.names n [] (.inl h)
  exact Option.isSome_iff_exists.mp q

theorem inv_start {CX : CXT} {P : Program} {w : World} {K : PySem.W.Frag} {mg : Str → Option Value} {base : Heap} {N ps : List Str} {qual : Str} {scope : Scope} {f : Addr} {cd : Value} {A : Around} {outer : List Env} {s s1 : Shared} {H : Hp} {E : XK} {us : List Value} {vs : List V}
    (S : FnScope N ps scope) (hd : A.handled = none) (e0 : Env0 P w K mg base A outer s H) (hl : vs.length = ps.length) (r : Vals vs us)
    (x : InCallC s s.heap.objs.size (bindL (envOfC qual scope s.heap.objs.size f cd).kindOf (ps.zip us) fun _ => none) (cellsFrom (s.heap.objs.size + 1) scope.names []) (bindC (envOfC qual scope s.heap.objs.size f cd).kindOf (ps.zip us) fun _ => none) s1) :
    Inv (cxOf CX P w K mg base N qual scope f cd A outer s H E) [] (start N vs) H s1 := by
  have hpl : ps.length ≤ N.length := by have := congrArg List.length S.pre; rw [List.length_take] at this; omega
  obtain ⟨h1, tk, rfl, hk⟩ := x.done
  have noA : ∀ b : Addr, b ∉ (cxOf CX P w K mg base N qual scope f cd A outer s H E).ex := fun b z => absurd (show b ∈ ([] : List Addr) from z) (by simp)
  refine ⟨⟨e0.mod, S.kind, rfl, rfl, Nat.le_refl _, fun y z c h1 h2 => ?_, fun y hy => ?_, fun y c _ h => ?_, fun _ => hd, Around.frames_deeper e0.frames, .inr ⟨rfl, rfl⟩, fun b z => absurd z (noA b), e0.bs, e0.bsz, fun b _ _ => noA b, fun b z => absurd z (noA b), e0.funs, e0.frf⟩,
    rfl, e0.bare, Un.kept hk, ⟨_, x.toInCall.ns, fun i y v h1 h2 h3 => ?_⟩, fun y c h => ⟨_, x.cell y c h⟩, e0.hok.fresh (Nat.le_refl _), fun y c h => ?_, fun p hp => absurd (show p ∈ ([] : List (Addr × Obj)) from hp) (by simp), e0.hok.kept hk, ?_⟩
  · exact name_of_addr x.apart (PySem.mem_of_lookup h1) (PySem.mem_of_lookup h2)
  · have hy : scope.names.lookup y = some .cell ∨ scope.names.lookup y = some .free := hy
    rcases hy with hy | hy
    · exact cell_has hy
    · exact absurd rfl (S.nofree _ (PySem.mem_of_lookup hy))
  · exact Nat.le_of_lt (x.above y c (PySem.mem_of_lookup h))
  · have hi : i < vs.length := by
      unfold start at h2
      by_cases hi : i < vs.length
      · exact hi
      · rw [List.getElem?_append_right (by simpa using hi)] at h2
        rw [List.getElem?_replicate] at h2
        split at h2 <;> cases h2
    have ha : vs[i]? = some v := by
      unfold start at h2
      rw [List.getElem?_append_left (by simpa using hi), List.getElem?_map] at h2
      cases e : vs[i]? with
      | none => rw [e] at h2; cases h2
      | some a => rw [e] at h2; cases h2; rfl
    obtain ⟨u, hu, rv⟩ := r.get ha
    have hp : ps[i]? = some y := by
      rw [← S.pre, List.getElem?_take_of_lt (by omega)]; exact h1
    have ndP : ps.Nodup := by rw [← S.pre]; exact S.nd.sublist (List.take_sublist _ _)
    refine ⟨u, rv, ?_⟩
    rcases S.par y (List.mem_of_getElem? hp) with k | k
    · exact .inl ⟨k, bindL_get ndP hp hu k⟩
    · obtain ⟨c, e⟩ := cell_has (n := s.heap.objs.size + 1) k
      refine .inr ⟨.inl k, c, e, ?_⟩
      have q := x.cell y c e
      rw [bindC_get ndP hp hu (by show scope.names.lookup y ≠ _; rw [k]; decide)] at q
      exact q
  · exact e0.hok.fresh (Nat.le_of_lt (x.above y c (PySem.mem_of_lookup h)))
  · unfold start
    show _ = N.length
    rw [List.length_append, List.length_map, List.length_replicate]
    omega

/-- THE RULE: a def (or a method) of the text, by its body. The body's reading t is chosen for each entry; it is run at the parameters' values -/
theorem fn_of {CX : CXT} {P : Program} {w : World} {K : PySem.W.Frag} {mg : Str → Option Value} {base : Heap} {k : Nat} {f : Addr} {name qual : Str} {params : Arguments} {body : List Stmt} {scope : Scope} {dV kV doc pm cdv ct oc : Value} {an od : Option Addr}
    {osl : Array (Option Value)} {N ps : List Str} {sp : Sp} (lk : K.lookup f = some ⟨oc, od, .func (PySem.W.fnOf name qual params body scope dV kV doc pm an cdv ct), osl⟩) (hcd : PySem.W.codeIn K cdv qual = true) (S : FnScope N ps scope)
    (len : ∀ vs H Q E, sp vs H Q E → vs.length = ps.length)
    (hbody : ∀ (A : Around) (outer : List Env) (s : Shared) (H : Hp) (vs : List V) (Q : VK) (E : XK), Room k (A.deeper (envOfC qual scope s.heap.objs.size f cdv)) → sp vs H Q E →
      ∃ t, PSs (cxOf CX P w K mg base N qual scope f cdv A outer s H E) body t ∧ t { nx := fun _ H' => Q .non H', rt := Q } (start N vs) H) :
    FnOk P w K mg base CX (k + 1) f (PySem.W.fnOf name qual params body scope dV kV doc pm an cdv ct) ps sp := by
  refine ⟨len, fun A outer s H args us vs Q E hr e0 hb r hsp => ?_⟩
  have hl := len _ _ _ _ hsp
  have KX : K.In s.heap := e0.mod.kin.keeps fun b o e => (e0.bs b o e).1
  have lim : s.heap.NoLimit := e0.mod.nolimit.keeps fun b o e => (e0.bs b o e).1
  have hkind : ∀ y ∈ ps.zip us, scope.names.lookup y.1 = some .local ∨ (scope.names.lookup y.1 = some .cell ∧ ((cellsFrom (s.heap.objs.size + 1) scope.names []).lookup y.1).isSome = true) := fun ⟨n, v⟩ hy => by
    rcases S.par n (List.of_mem_zip hy).1 with q | q
    · exact .inl q
    · exact .inr ⟨q, PySem.W.cellsFrom_some _ _ _ (.inl q)⟩
  refine codeAny_call_function hr.depth (KX _ _ lk) rfl S.co S.gen rfl (PySem.W.codeRec_of KX hcd) (hb _ _ _ _ ?_)
  refine wpAny_newFunctionEnv_cells S.kind hkind fun env he s1 x => ?_
  subst he
  refine ⟨lim.keeps x.toInCall.keep, codeAny_func ?_⟩
  obtain ⟨t, ht, hq⟩ := hbody A outer s H vs Q E (hr.deeper _) hsp
  have I : Inv (cxOf CX P w K mg base N qual scope f cdv A outer s H E) [] (start N vs) H s1 := inv_start S hr.hd e0 hl r x
  refine wpAny_mono (ht [] s1 (start N vs) H _ I hq) (fun fl s' hs => ?_) fun e s' hs => hs
  have fin : ∀ {σ' : St} {H' : Hp} {v : V} {u : Value}, Inv (cxOf CX P w K mg base N qual scope f cdv A outer s H E) [] σ' H' s' → RelV v u → Q v H' → CE outer P w H s Q u s' :=
    fun {σ' H' v u} J rv q => ⟨v, H', J.os, J.bare, J.base, J.hok, rv, q⟩
  cases fl with
  | ret u =>
    obtain ⟨v, σ', H', J, rv, q⟩ := hs
    exact fin J rv q
  | next =>
    obtain ⟨σ', H', J, q⟩ := hs
    exact fin (v := V.non) (u := Value.none) J rfl q
  | brk =>
    obtain ⟨_, _, _, q⟩ := hs
    exact False.elim q
  | cont =>
    obtain ⟨_, _, _, q⟩ := hs
    exact False.elim q
end L2

namespace L2
open PySem PySem.Spec PyProof.Rows
section
variable {X : Cx} {x : Str} {p pos : Pos} {e : Expr} {es : List Expr} {t : TA} {id T : String} {r : List V → Hp → VK → Prop}

def tCB (r : List V → Hp → VK → Prop) (t : TA) : TE := fun σ H Q => t σ H fun vs H1 => r vs H1 Q
/-- f(e, ..), f a built-in function -/
theorem pe_callB (hc : CallR X (.builtin id) r) (hg : Gl X x) (hm : X.mg x = none) (hv : bootBuiltins x = some (.builtin id)) (ha : PA X (e :: es) t) (hn : x ≠ "__name__" := by decide) (hdb : (x == ("__debug__" : Str)) = false := by decide)
    (he : starEach (e :: es) X.env = (false, eval e X.env) :: starEach es X.env := by rfl) (hpl : (backTo pos (starEach es X.env)).any (·.1) = false := by rfl) : PE X (.Call (.Name x p) (e :: es) [] pos) (tCB r t) := by
  intro pins s σ H Q I h
  refine wpAny_Call_Name_kw (ld_blt I hg hm hv ?_ hn hdb)
  exact PyProof.Rows.callWith_builtin1 (thn (ha pos pins s σ H _ I h) fun us s1 ⟨vs, H1, I1, r1, q1⟩ => hc pins s1 σ H1 vs us Q I1 r1 q1) he hpl
/-- T(e, ..), T a built-in type -/
theorem pe_callTy (hc : CallR X (.type T) r) (hg : Gl X x) (hm : X.mg x = none) (hv : bootBuiltins x = some (.type T)) (ha : PA X (e :: es) t) (hn : x ≠ "__name__" := by decide) (hdb : (x == ("__debug__" : Str)) = false := by decide)
    (he : starEach (e :: es) X.env = (false, eval e X.env) :: starEach es X.env := by rfl) (hpl : (backTo pos (starEach es X.env)).any (·.1) = false := by rfl) : PE X (.Call (.Name x p) (e :: es) [] pos) (tCB r t) := by
  intro pins s σ H Q I h
  refine wpAny_Call_Name_kw (ld_blt I hg hm hv ?_ hn hdb)
  exact PyProof.Rows.callWith_type1 (thn (ha pos pins s σ H _ I h) fun us s1 ⟨vs, H1, I1, r1, q1⟩ => hc pins s1 σ H1 vs us Q I1 r1 q1) he hpl
/-- T() -/
theorem pe_callTy0 (hc : CallR X (.type T) r) (hg : Gl X x) (hm : X.mg x = none) (hv : bootBuiltins x = some (.type T)) (hn : x ≠ "__name__" := by decide) (hdb : (x == ("__debug__" : Str)) = false := by decide) :
    PE X (.Call (.Name x p) [] [] pos) (tCB r tNil) := by
  intro pins s σ H Q I h
  refine wpAny_Call_Name_kw (ld_blt I hg hm hv ?_ hn hdb)
  exact PyProof.Rows.callWith_type0 (hc pins s σ H [] [] Q I .nil h)
end
end L2

namespace HT
open PySem PyProof.Rows

/-- t < u of tuples of ints -/
def lexLt : List Int → List Int → Bool
  | [], [] => false
  | [], _ :: _ => true
  | _ :: _, [] => false
  | x :: xs, y :: ys => if x = y then lexLt xs ys else decide (x < y)
theorem lexLt_cons (x y : Int) (xs ys : List Int) : lexLt (x :: xs) (y :: ys) = if x = y then lexLt xs ys else decide (x < y) := rfl
theorem lexLt_nil_nil : lexLt [] [] = false := rfl
theorem lexLt_nil_cons (y : Int) (ys : List Int) : lexLt [] (y :: ys) = true := rfl
theorem lexLt_cons_nil (x : Int) (xs : List Int) : lexLt (x :: xs) [] = false := rfl

theorem eqAt_int (A : Around) (s : Shared) (a : Int) (t : Tok) (c : Int) (u : Tok) : ∃ e, SeqAt.EqAt A s (.int a t) (.int c u) e ∧ (e = true ↔ a = c) :=
  ⟨(a == c), SeqAt.EqAt.int_int a t c u, by simp⟩
theorem rcLt_int (A : Around) (s : Shared) (a : Int) (t : Tok) (c : Int) (u : Tok) (prog : Program) (w : World) (E : Value → Shared → Prop) (Q : Value → Shared → Prop) (h : Q (.bool (decide (a < c))) s) :
    wpAny (model prog w) A (richCompare .Lt (.int a t) (.int c u)) Q E s :=
  (PyProof.Rows.lt_int h : wpAny (model prog w) A (compareOp .Lt (.int a t) (.int c u)) Q E s)

section
open PySem.SeqAt
open PySem.AutoSeq1 (wpAny_loadPart')
open PySem.MeetsSeq PySem.MeetsSeq2 PySem.MeetsSeq3

theorem tuple_lt_ints (l b : Addr) (items items2 : Array Value) (n n2 : Nat) (dd dd2 : Option Addr) (sl sl2 : Array (Option Value)) (ns ms : List Int) (hi : IntsAre items.toList ns) (hj : IntsAre items2.toList ms) :
    Meets (Builtin.«tuple.__lt__» ⟨[.ref l, .ref b], []⟩)
      (fun _ R s => s.heap.get? l = some { cls := .type "tuple", dict := dd, data := .seq items n, slots := sl } ∧ s.heap.get? b = some { cls := .type "tuple", dict := dd2, data := .seq items2 n2, slots := sl2 } ∧
        R (.ok (.ret (.bool (lexLt ns ms)))) s) :=
  .of_wp fun prog w A R s h => by
    obtain ⟨hp, g, d, tk, os⟩ := s; obtain ⟨hl, hb, h⟩ := h
    have f2 := AutoSeq1.sub_tuple_tuple
    have z1 : items.size = ns.length := by rw [← hi.length]; simp
    have z2 : items2.size = ms.length := by rw [← hj.length]; simp
    wp_walk using wpAny_loadPart' hl, wpAny_loadPart' hb, wpAny_forIn_list _ (fun rest b s' => b.1 = none ∧ s' = ⟨hp, g, d, tk, os⟩ ∧ ∃ (vs ws : List Value) (ns' ms' : List Int), rest = vs.zip ws ∧
      IntsAre vs ns' ∧ IntsAre ws ms' ∧ ns'.length + items2.size = ms'.length + items.size ∧ R (.ok (.ret (.bool (lexLt ns' ms')))) ⟨hp, g, d, tk, os⟩) _
    case turn =>
      rintro ⟨y, x⟩ rest b s' ⟨hb', rfl, vs, ws, ns', ms', hz, hvi, hwi, hlen, hR⟩
      cases hvi with
      | nil => rw [List.zip_nil_left] at hz; cases hz
      | cons a t hvi' =>
        cases hwi with
        | nil => rw [List.zip_nil_right] at hz; cases hz
        | cons c u hwi' =>
          rw [List.zip_cons_cons] at hz
          injection hz with hyx hrest
          injection hyx with hy hx
          subst hy hx
          rw [lexLt_cons] at hR
          simp only [List.length_cons] at hlen
          obtain ⟨e, he, hiff⟩ := eqAt_int A.in1 ⟨hp, g, d, tk, os⟩ a t c u
          refine wpAny_bind (he prog w _ _ ?_)
          cases e with
          | true =>
            rw [if_pos (hiff.mp rfl)] at hR
            wp_walk
            exact ⟨rfl, rfl, _, _, _, _, hrest, hvi', hwi', by omega, hR⟩
          | false =>
            rw [if_neg (fun q => absurd (hiff.mpr q) Bool.false_ne_true)] at hR
            have hri := rcLt_int A.in1 ⟨hp, g, d, tk, os⟩ a t c u prog w
            wp_walk using hri
            exact ⟨_, rfl, by simpa using hR⟩
    case fin =>
      rintro ⟨b1, b2⟩ s' ⟨hb', rfl, vs, ws, ns', ms', hz, hvi, hwi, hlen, hR⟩
      simp only at hb'
      subst hb'
      have hv : lexLt ns' ms' = decide (items.size < items2.size) := by
        cases hvi with
        | nil =>
          cases hwi with
          | nil =>
            simp only [List.length_nil] at hlen
            rw [lexLt_nil_nil]
            exact (decide_eq_false (by omega)).symm
          | cons c u hw =>
            simp only [List.length_nil, List.length_cons] at hlen
            rw [lexLt_nil_cons]
            exact (decide_eq_true (by omega)).symm
        | cons a t hv =>
          cases hwi with
          | nil =>
            simp only [List.length_nil, List.length_cons] at hlen
            rw [lexLt_cons_nil]
            exact (decide_eq_false (by omega)).symm
          | cons c u hw =>
            rw [List.zip_cons_cons] at hz
            cases hz
      rw [hv] at hR
      wp_walk
      exact ⟨_, rfl, by simpa [Builtin.Tuple.tupleCompareSizes] using hR⟩
    case h =>
      exact ⟨rfl, rfl, items.toList, items2.toList, ns, ms, rfl, hi, hj, by omega, h⟩
end

section
variable {prog : Program} {w : World} {A : Around} {E : Value → Shared → Prop} {s : Shared}

theorem lt_tupInts {l b : Addr} {items items2 : Array Value} {ns ms : List Int} {Q : Value → Shared → Prop} (hl : IsTup s.heap l items) (hb : IsTup s.heap b items2) (hi : IntsAre items.toList ns) (hj : IntsAre items2.toList ms)
    (hu : A.units < cLine) (h : Q (.bool (lexLt ns ms)) s) : wpAny (model prog w) A (compareOp .Lt (.ref l) (.ref b)) Q E s := by
  obtain ⟨⟨cls, dd, data, sl⟩, ho, hc, n, hd⟩ := id hl
  obtain ⟨⟨cls2, dd2, data2, sl2⟩, ho2, hc2, n2, hd2⟩ := id hb
  simp only at hc hd hc2 hd2
  subst hc hd hc2 hd2
  exact richCompare_meets_room (op := .Lt) ⟨_, ho, rfl⟩ ⟨_, ho2, rfl⟩ PySem.F.slot_tuple_lt PySem.F.entry_tuple_lt (PySem.F.args_tuple_lt_2 _ _) (tuple_lt_ints l b items items2 n n2 dd dd2 sl sl2 ns ms hi hj)
    ⟨ho, ho2, show Value.bool (lexLt ns ms) ≠ Value.notImplemented ∧ Q (.bool (lexLt ns ms)) s from ⟨(fun x => nomatch x), h⟩⟩ hu

/-- t + u, t not empty -/
theorem cat_tup {t b : Addr} {vs ws : List Value} {Q : Value → Shared → Prop} (ht : IsTup s.heap t vs.toArray) (hb : IsTup s.heap b ws.toArray) (hv : vs ≠ [])
    (h1 : ws = [] → Q (.ref t) s) (h2 : ws ≠ [] → Q (.ref s.heap.objs.size) { s with heap := s.heap.push { cls := .type "tuple", data := .seq (vs ++ ws).toArray } })
    (hsz : vs.length + ws.length ≤ sizeLine) : wpAny (model prog w) A (binaryOp .Add (.ref t) (.ref b)) Q E s := by
  obtain ⟨⟨cls, dd, data, sl⟩, ho, hc, n, hd⟩ := id ht
  obtain ⟨⟨cls2, dd2, data2, sl2⟩, ho2, hc2, n2, hd2⟩ := id hb
  simp only at hc hd hc2 hd2
  subst hc hd hc2 hd2
  have e : vs.toArray ++ ws.toArray = (vs ++ ws).toArray := by simp
  by_cases hw : ws = []
  · exact concat_meets ⟨_, ho, rfl⟩ ⟨_, ho2, rfl⟩ noFill_tuple_add seq_tuple_add PySem.F.slot_tuple_add PySem.F.entry_tuple_add (PySem.F.args_tuple_add_2 _ _)
      (tuple_addW1 t b vs.toArray ws.toArray n n2 dd dd2 sl sl2 (by simpa using hv) (by simp [hw])) ⟨ho, ho2, h1 hw⟩
  · refine concat_meets ⟨_, ho, rfl⟩ ⟨_, ho2, rfl⟩ noFill_tuple_add seq_tuple_add PySem.F.slot_tuple_add PySem.F.entry_tuple_add (PySem.F.args_tuple_add_2 _ _)
      (tuple_addW2 t b vs.toArray ws.toArray n n2 dd dd2 sl sl2 (by simpa using hv) (by simpa using hw) (by rw [List.size_toArray, List.size_toArray]; exact hsz)) ⟨ho, ho2, ?_⟩
    rw [e]
    exact h2 hw

/-! ### t[a:b], not the whole -/
/-- a slice's bound as a place among n (d where it is left out) -/
def sIx (n d : Nat) : Option Int → Nat
  | none => d
  | some v => if v < 0 then (v + (n : Int)).toNat else min v.toNat n
theorem sIx_none (n d : Nat) : sIx n d none = d := rfl
theorem sIx_nat (n d k : Nat) : sIx n d (some (k : Int)) = min k n := by
  show (if (k : Int) < 0 then ((k : Int) + (n : Int)).toNat else min (k : Int).toNat n) = min k n
  rw [if_neg (by omega), Int.toNat_natCast]
theorem sIx_le (n d : Nat) (hd : d ≤ n) (o : Option Int) : sIx n d o ≤ n := by
  cases o with
  | none => exact hd
  | some v =>
    show (if v < 0 then (v + (n : Int)).toNat else min v.toNat n) ≤ n
    by_cases hv : v < 0
    · rw [if_pos hv]; omega
    · rw [if_neg hv]; exact Nat.min_le_right _ _
theorem clip_eq (v : Int) (n d : Nat) : (if v < 0 then max (v + (n : Int)) 0 else min v (n : Int)) = ((sIx n d (some v) : Nat) : Int) := by
  show (if v < 0 then max (v + (n : Int)) 0 else min v (n : Int)) = (((if v < 0 then (v + (n : Int)).toNat else min v.toNat n) : Nat) : Int)
  by_cases hv : v < 0
  · simp only [if_pos hv]; omega
  · simp only [if_neg hv]; omega
theorem adjust_gen (lo hi : Option Int) (n : Nat) : Builtin.Slice.sliceAdjust lo hi 1 (n : Int) = (((sIx n 0 lo : Nat) : Int), ((sIx n n hi : Nat) : Int)) := by
  have h1 : ¬ ((1 : Int) < 0) := by omega
  unfold Builtin.Slice.sliceAdjust
  simp only [h1, if_false]
  refine Prod.ext ?_ ?_
  · cases lo with
    | none => rfl
    | some v => exact clip_eq v n 0
  · cases hi with
    | none => rfl
    | some v => exact clip_eq v n n
theorem places_gen (i j : Nat) : Builtin.Slice.slicePlaces (i : Int) (j : Int) 1 = j - i := by
  unfold Builtin.Slice.slicePlaces
  have h1 : (1 : Int) > 0 := by omega
  simp only [h1, if_true, Int.ediv_one]
  split <;> omega
theorem slicePart_ {v : Value} {o : Option Int} {Q : Option Int → Shared → Prop} (p : IsPart v o) (h : Q o s) : wpAny (model prog w) A (Builtin.Slice.slicePartIndex v) Q E s := by
  cases p with
  | none => exact slicePart_none h
  | int i t => exact slicePart_int h
theorem sliceApplied_gen {sl : Addr} {vl vu : Value} {lo hi : Option Int} {n : Nat} {Q : Int × Int × Nat → Shared → Prop} (hs : s.heap.IsSliceOf sl vl vu .none) (pl : IsPart vl lo) (pu : IsPart vu hi)
    (h : Q (((sIx n 0 lo : Nat) : Int), 1, sIx n n hi - sIx n 0 lo) s) : wpAny (model prog w) A (Builtin.Slice.sliceApplied (.ref sl) (pure (n : Int))) Q E s := by
  obtain ⟨os, hos, hcs, hds⟩ := id hs
  unfold Builtin.Slice.sliceApplied Builtin.Slice.sliceFields
  refine wpAny_bind (wpAny_bind (wpAny_field hos hds (x := vl) rfl (wpAny_bind (wpAny_field hos hds (x := vu) rfl (wpAny_bind (wpAny_field hos hds (x := .none) rfl (wpAny_pure ?_)))))))
  refine wpAny_bind (slicePart_none ?_)
  show wpAny _ _ (if ((1 : Int) == 0) = true then _ else _) _ _ s
  rw [if_neg (by decide)]
  refine wpAny_bind (slicePart_ pl (wpAny_bind (slicePart_ pu (wpAny_bind (wpAny_pure ?_)))))
  show wpAny _ _ (match Builtin.Slice.sliceAdjust lo hi 1 (n : Int) with | (lo, hi) => pure (lo, (1 : Int), Builtin.Slice.slicePlaces lo hi 1)) _ _ s
  rw [adjust_gen lo hi n]
  show wpAny _ _ (pure (((sIx n 0 lo : Nat) : Int), (1 : Int), Builtin.Slice.slicePlaces ((sIx n 0 lo : Nat) : Int) ((sIx n n hi : Nat) : Int) 1)) _ _ s
  rw [places_gen]
  exact wpAny_pure h
theorem pick_gen (xs : Array Value) (i k : Nat) : ((List.range k).filterMap fun (m : Nat) => xs[((i : Int) + (m : Int) * 1).toNat]?).toArray = ((xs.toList.drop i).take k).toArray := by
  have e : (fun (m : Nat) => xs[((i : Int) + (m : Int) * 1).toNat]?) = fun m => xs[i + m]? := by
    funext m
    have : ((i : Int) + (m : Int) * 1).toNat = i + m := by omega
    rw [this]
  rw [e]
  have := pick_run xs i k
  rw [List.filterMap_map] at this
  have e2 : ((fun x => xs[x]?) ∘ fun x => i + x) = fun m => xs[i + m]? := rfl
  rw [e2] at this
  rw [this]

theorem getItem_tuple_cut {t sl : Addr} {items : Array Value} {vl vu : Value} {lo hi : Option Int} {Q : Value → Shared → Prop} (ht : IsTup s.heap t items) (hs : s.heap.IsSliceOf sl vl vu .none) (pl : IsPart vl lo) (pu : IsPart vu hi)
    (hw : ¬ (sIx items.size 0 lo = 0 ∧ sIx items.size items.size hi = items.size))
    (h : Q (.ref s.heap.objs.size) { s with heap := s.heap.push { cls := .type "tuple", data := .seq ((items.toList.drop (sIx items.size 0 lo)).take (sIx items.size items.size hi - sIx items.size 0 lo)).toArray } })
    (hsz : items.size ≤ sizeLine) : wpAny (model prog w) A (getItem (.ref t) (.ref sl)) Q E s := by
  have htake : sizeOk (.seq ((items.toList.drop (sIx items.size 0 lo)).take (sIx items.size items.size hi - sIx items.size 0 lo)).toArray) := by
    show ((items.toList.drop (sIx items.size 0 lo)).take (sIx items.size items.size hi - sIx items.size 0 lo)).toArray.size ≤ sizeLine
    rw [List.size_toArray, List.length_take, List.length_drop, Array.length_toList]
    omega
  have hj : sIx items.size items.size hi ≤ items.size := sIx_le _ _ (Nat.le_refl _) hi
  obtain ⟨os, hos, hcs, hds⟩ := id hs
  have hTs : s.TypeIs (.ref sl) "slice" := ⟨os, hos, hcs⟩
  unfold getItem
  try with_reducible refine wpAny_holding ?_
  first | refine wpAny_bind (wpAny_pure ?_) | skip
  refine wpAny_bind (wpAny_sequenceKey ht.typeIs (by decide) ?_)
  refine wpAny_bind (wpAny_callSpecial?_slot (name := Str.ofString "__getitem__") ht.typeIs PyProof.Rows.slot_tuple_getitem
    (wpAny_call_entry PyProof.Rows.slot_tuple_getitem ht.typeIs entry_tuple_getitem ?_ (args_tuple_getitem _ _)))
  show wpAny _ _ (Builtin.Tuple.tupleItemsOf (.ref t) >>= _) _ _ s
  refine wpAny_bind (tupleItemsOf_ ht ?_)
  refine wpAny_bind (wpAny_typeOf hTs ?_)
  rw [if_pos (by decide)]
  refine wpAny_bind (sliceApplied_gen hs pl pu ?_)
  have hno : ¬ ((((sIx items.size 0 lo : Nat) : Int) == 0 && (1 : Int) == 1 && (sIx items.size items.size hi - sIx items.size 0 lo) == items.size) = true) := by
    intro q
    rw [Bool.and_eq_true, Bool.and_eq_true] at q
    have q1 : ((sIx items.size 0 lo : Nat) : Int) = 0 := eq_of_beq q.1.1
    have q2 : sIx items.size items.size hi - sIx items.size 0 lo = items.size := eq_of_beq q.2
    exact hw ⟨by omega, by omega⟩
  show wpAny _ _ (if (((sIx items.size 0 lo : Nat) : Int) == 0 && (1 : Int) == 1 && (sIx items.size items.size hi - sIx items.size 0 lo) == items.size) = true then _ else _) _ _ s
  rw [if_neg hno, pick_gen]
  first
    | exact wpAny_bind (m := Builtin.Tuple.tupleExact _) (wpAny_newObj_type (wpAny_pure ⟨_, rfl, wpAny_pure h⟩) htake)
    | exact wpAny_bind (m := Builtin.Tuple.tupleExact _) (wpAny_newObj_type (wpAny_bind (wpAny_pure (wpAny_pure ⟨_, rfl, wpAny_pure h⟩))) htake)
    | exact wpAny_bind (wpAny_bind (m := Builtin.Tuple.tupleExact _) (wpAny_newObj_type (wpAny_pure (wpAny_pure ⟨_, rfl, wpAny_pure h⟩)) htake))
    | exact wpAny_bind (wpAny_bind (m := Builtin.Tuple.tupleExact _) (wpAny_newObj_type (wpAny_pure ⟨_, rfl, wpAny_pure h⟩) htake))
end
end HT

namespace L2
open PySem PySem.Spec PyProof.Rows

/-! ### the parts of a slice -/
abbrev TO := St → Hp → (Option Int → Hp → Prop) → Prop
/-- a slice's part (left out, or an int) -/
def PO (X : Cx) (e : Option Expr) (t : TO) : Prop :=
  ∀ (pins : List (Addr × Obj)) (s : Shared) (σ : St) (H : Hp) (Q : Option Int → Hp → Prop), Inv X pins σ H s → t σ H Q →
    wpAny (model X.prog X.w) X.A (evalPart e X.env) (fun u s' => ∃ o H', Inv X pins σ H' s' ∧ IsPart u o ∧ Q o H') X.xe s
def tNoPart : TO := fun _ H Q => Q none H
def tPart (t : TE) : TO := fun σ H Q => t σ H fun x H1 => ∃ i, x = .int i ∧ Q (some i) H1

theorem intsAre_of {ns : List Int} : ∀ {us : List Value}, Vals (ns.map V.int) us → IntsAre us ns := by
  induction ns with
  | nil => intro us r; rw [List.map_nil] at r; cases r; exact .nil
  | cons n ns ih =>
    intro us r
    rw [List.map_cons] at r
    cases r with
    | cons r1 r2 =>
      obtain ⟨t, e⟩ := r1
      subst e
      exact .cons n t (ih r2)

section
variable {X : Cx} {e : Expr} {te : TE} {lo hi : Option Expr} {tl th : TO} {pos p2 : Pos}

theorem po_none : PO X none tNoPart := by
  intro pins s σ H Q I h
  rw [evalPart_none]
  exact wpAny_pure ⟨none, H, I, .none, h⟩
theorem po_some (h : PE X e te) : PO X (some e) (tPart te) := by
  intro pins s σ H Q I hw
  rw [evalPart_some]
  refine thn (h pins s σ H _ I hw) fun u s1 ⟨x, H1, I1, r1, q1⟩ => ?_
  obtain ⟨i, rfl, q⟩ := q1
  obtain ⟨t, rfl⟩ := r1
  exact ⟨some i, H1, I1, .int i t, q⟩

/-- what a slice of a value is, by values: the slice object stands at sl -/
def SlR (X : Cx) (r : V → Option Int → Option Int → Hp → VK → Prop) : Prop :=
  ∀ (pins : List (Addr × Obj)) (s : Shared) (σ : St) (H : Hp) (x : V) (v vl vu : Value) (lo hi : Option Int) (sl : Addr) (Q : VK), Inv X pins σ H s → RelV x v → s.heap.IsSliceOf sl vl vu .none → IsPart vl lo → IsPart vu hi → r x lo hi H Q →
    ∃ T id, typeLookup (.type T) "__getitem__" = pure (some (.builtin id)) ∧ s.TypeIs v T ∧ wpAny (model X.prog X.w) X.A (getItem v (.ref sl)) (EP X pins σ Q) X.xe s
theorem SlR.or {r r' : V → Option Int → Option Int → Hp → VK → Prop} (h : SlR X r) (h' : SlR X r') : SlR X (fun x lo hi H Q => r x lo hi H Q ∨ r' x lo hi H Q) := by
  intro pins s σ H x v vl vu lo hi sl Q I rx hs pl pu q
  rcases q with q | q
  · exact h pins s σ H x v vl vu lo hi sl Q I rx hs pl pu q
  · exact h' pins s σ H x v vl vu lo hi sl Q I rx hs pl pu q
def tSl (r : V → Option Int → Option Int → Hp → VK → Prop) (te : TE) (tl th : TO) : TE := fun σ H Q => te σ H fun x H1 => tl σ H1 fun l H2 => th σ H2 fun u H3 => r x l u H3 Q
/-- a[lo:hi], any a -/
theorem pe_slice {r : V → Option Int → Option Int → Hp → VK → Prop} (hr : SlR X r) (he : PE X e te) (hl : PO X lo tl) (hu : PO X hi th) : PE X (.Subscript e (.Slice lo hi none p2) pos) (tSl r te tl th) := by
  intro pins s σ H Q I h
  refine Subscript_ (thn (he pins s σ H _ I h) fun v s1 ⟨x, H1, I1, r1, q1⟩ => ?_)
  refine wpAny_Slice (thn (hl pins s1 σ H1 _ I1 q1) fun vl s2 ⟨l, H2, I2, pl, q2⟩ => thn (hu pins s2 σ H2 _ I2 q2) fun vu s3 ⟨u, H3, I3, pu, q3⟩ => ?_)
  rw [evalPart_none]
  refine wpAny_pure ?_
  have I4 : Inv X pins σ H3 { s3 with heap := s3.heap.push { cls := .type "slice", data := .fields #[vl, vu, .none] } } := I3.kept (t' := s3.toks) fun b ob q => Heap.get?_push_of_some _ q
  obtain ⟨T, id, hT, ht, hg⟩ := hr pins { s3 with heap := s3.heap.push { cls := .type "slice", data := .fields #[vl, vu, .none] } } σ H3 x v vl vu l u s3.heap.objs.size Q I4 r1 (Heap.IsSliceOf.new ..) pl pu q3
  show wpAny (model X.prog X.w) X.A (subscriptTail e (.Slice lo hi none p2) v (.ref s3.heap.objs.size)) (EP X pins σ Q) X.xe { s3 with heap := s3.heap.push { cls := .type "slice", data := .fields #[vl, vu, .none] } }
  exact tail_any (ops := [.ref s3.heap.objs.size, v]) ht hT hg (by with_unfolding_all rfl)

/-- the items of xs[lo:hi] -/
def cutV (xs : List V) (lo hi : Option Int) : List V := (xs.drop (HT.sIx xs.length 0 lo)).take (HT.sIx xs.length xs.length hi - HT.sIx xs.length 0 lo)
theorem cutV_length (xs : List V) (lo hi : Option Int) : (cutV xs lo hi).length ≤ xs.length := by
  unfold cutV
  rw [List.length_take, List.length_drop]
  omega
/-- t[lo:hi], not the whole of it (the whole would be t itself) -/
def rSlT (K : PySem.W.Frag) : V → Option Int → Option Int → Hp → VK → Prop := fun x lo hi H Q => ∃ a xs, x = .ref a ∧ SqT K H a xs ∧
  ¬ (HT.sIx xs.length 0 lo = 0 ∧ HT.sIx xs.length xs.length hi = xs.length) ∧ ∀ p, H p = none → Q (.ref p) (upd H p (.tup (cutV xs lo hi)))
theorem sl_tup : SlR X (rSlT X.K) := by
  intro pins s σ H x v vl vu lo hi sl Q I rx hs pl pu h
  obtain ⟨a, xs, rfl, hx, hw, q⟩ := h
  cases rx
  obtain ⟨its, r, ht, hz⟩ := I.tuple hx
  have hlen : its.toArray.size = xs.length := by rw [List.size_toArray]; exact r.length.symm
  refine ⟨"tuple", _, PyProof.Rows.slot_tuple_getitem.lookup, ht.typeIs, ?_⟩
  refine HT.getItem_tuple_cut ht hs pl pu (by rw [hlen]; exact hw) ?_ (by rw [hlen]; exact hz)
  rw [hlen]
  refine ⟨.ref s.heap.objs.size, _, I.laid (t' := s.toks) (o := .tup (cutV xs lo hi)) (fun b ob q => Heap.get?_push_of_some _ q) (Nat.le_refl _) ?_, rfl, q _ (I.hok.fresh (Nat.le_refl _))⟩
  exact ⟨Nat.le_trans (cutV_length xs lo hi) hz, _, (r.drop (HT.sIx xs.length 0 lo)).take (HT.sIx xs.length xs.length hi - HT.sIx xs.length 0 lo), IsTup.new _ _⟩

/-! ### t < u, t + u -/
def rLtT (K : PySem.W.Frag) : R2 := fun x y H Q => ∃ a b ns ms, x = .ref a ∧ y = .ref b ∧ SqT K H a (ns.map V.int) ∧ SqT K H b (ms.map V.int) ∧ Q (.bl (HT.lexLt ns ms)) H
theorem op_ltT (hu : X.A.units < cLine) : OpR X (compareOp .Lt) (rLtT X.K) := by
  intro pins s σ H x y v u Q I rx ry h
  obtain ⟨a, b, ns, ms, rfl, rfl, ha, hb, q⟩ := h
  cases rx
  cases ry
  obtain ⟨its, r1, p1, _⟩ := I.tuple ha
  obtain ⟨its2, r2, p2, _⟩ := I.tuple hb
  have i1 : IntsAre its.toArray.toList ns := intsAre_of r1
  have i2 : IntsAre its2.toArray.toList ms := intsAre_of r2
  exact HT.lt_tupInts p1 p2 i1 i2 hu ⟨.bl (HT.lexLt ns ms), H, I, rfl, q⟩
/-- t + u, t not empty: u empty gives t itself -/
def rCatT (K : PySem.W.Frag) : R2 := fun x y H Q => ∃ a b xs ys, x = .ref a ∧ y = .ref b ∧ SqT K H a xs ∧ SqT K H b ys ∧ xs ≠ [] ∧ xs.length + ys.length ≤ sizeLine ∧
  (ys = [] → Q (.ref a) H) ∧ (ys ≠ [] → ∀ p, H p = none → Q (.ref p) (upd H p (.tup (xs ++ ys))))
theorem Vals.nil_iff {xs : List V} {us : List Value} (r : Vals xs us) : us = [] ↔ xs = [] := by
  cases r with
  | nil => simp
  | cons _ _ => simp
theorem op_catT : OpR X (binaryOp .Add) (rCatT X.K) := by
  intro pins s σ H x y v u Q I rx ry h
  obtain ⟨a, b, xs, ys, rfl, rfl, ha, hb, hx, hz, q1, q2⟩ := h
  cases rx
  cases ry
  obtain ⟨its, r1, p1, _⟩ := I.tuple ha
  obtain ⟨its2, r2, p2, _⟩ := I.tuple hb
  refine HT.cat_tup p1 p2 (fun z => hx (r1.nil_iff.mp z)) (fun z => ⟨.ref a, H, I, rfl, q1 (r2.nil_iff.mp z)⟩) (fun z => ?_) (by rw [← r1.length, ← r2.length]; exact hz)
  refine ⟨.ref s.heap.objs.size, _, I.laid (t' := s.toks) (o := .tup (xs ++ ys)) (fun b ob q => Heap.get?_push_of_some _ q) (Nat.le_refl _) ?_, rfl, q2 (fun w => z (r2.nil_iff.mpr w)) _ (I.hok.fresh (Nat.le_refl _))⟩
  exact ⟨by rw [List.length_append]; exact hz, _, r1.append r2, IsTup.new _ _⟩
/-- tuple(t) -/
theorem call_tupleT : CallR X (.type "tuple") (fun xs H Q => ∃ a ys, xs = [.ref a] ∧ SqT X.K H a ys ∧ Q (.ref a) H) := by
  intro pins s σ H xs us Q I r h
  obtain ⟨a, ys, rfl, ha, q⟩ := h
  obtain ⟨u, rfl, ru⟩ := vals1 r
  cases ru
  obtain ⟨its, _, p1, _⟩ := I.tuple ha
  exact call_tuple_same (items := its.toArray) p1 ⟨.ref a, H, I, rfl, q⟩
end
end L2

namespace L2
open PySem PySem.Spec PyProof.Rows

/-! ### places -/
/-- the place that an index of any sign means -/
def ixN (n : Nat) (i : Int) : Option Nat := if 0 ≤ i then (if i < n then some i.toNat else none) else if -(n : Int) ≤ i then some (i + n).toNat else none
def atI {α : Type} (xs : List α) (i : Int) : Option α := (ixN xs.length i).bind fun j => xs[j]?
theorem ixN_seq {n : Nat} {i : Int} {j : Nat} (h : ixN n i = some j) : seqIndex? i n = some j ∧ j < n ∧ -(n : Int) ≤ i ∧ i < n := by
  unfold ixN at h
  by_cases h0 : 0 ≤ i
  · rw [if_pos h0] at h
    by_cases h1 : i < n
    · rw [if_pos h1] at h
      have e : i.toNat = j := Option.some.inj h
      exact ⟨by rw [seqIndex_of h0 h1, e], by omega, by omega, h1⟩
    · rw [if_neg h1] at h; cases h
  · rw [if_neg h0] at h
    by_cases h1 : -(n : Int) ≤ i
    · rw [if_pos h1] at h
      have e : (i + n).toNat = j := Option.some.inj h
      exact ⟨by rw [seqIndex_neg (by omega) h1, e], by omega, h1, by omega⟩
    · rw [if_neg h1] at h; cases h
theorem atI_get {α : Type} {xs : List α} {i : Int} {v : α} (h : atI xs i = some v) : ∃ j, seqIndex? i xs.length = some j ∧ xs[j]? = some v ∧ j < xs.length ∧ -(xs.length : Int) ≤ i ∧ i < xs.length := by
  unfold atI at h
  cases e : ixN xs.length i with
  | none => rw [e] at h; cases h
  | some j =>
    rw [e] at h
    obtain ⟨h1, h2, h3, h4⟩ := ixN_seq e
    exact ⟨j, h1, h, h2, h3, h4⟩
theorem atI_nat {α : Type} {xs : List α} {j : Nat} {v : α} (h : xs[j]? = some v) : atI xs (j : Int) = some v := by
  have hj : j < xs.length := (List.getElem?_eq_some_iff.mp h).1
  have e : ixN xs.length (j : Int) = some j := by
    unfold ixN
    rw [if_pos (by omega), if_pos (by omega)]; simp
  unfold atI; rw [e]; exact h
theorem atI_last {α : Type} (xs : List α) (v : α) : atI (xs ++ [v]) (-1) = some v := by
  have hl : (xs ++ [v]).length = xs.length + 1 := by simp
  have e : ixN (xs ++ [v]).length (-1) = some xs.length := by
    unfold ixN
    rw [hl, if_neg (by decide), if_pos (by omega)]
    congr 1
    omega
  unfold atI
  rw [e]
  show (xs ++ [v])[xs.length]? = some v
  simp

/-! ### what may be subscripted -/
/-- what stands as an index of a plain subscript -/
def PlainIx (b : Expr) : Prop := ∀ o i, subscripted b false o i = operate [o, i] (getItem o i)
/-- a subscript by values -/
def IxR (X : Cx) (r : R2) : Prop :=
  ∀ (value slice : Expr) (pins : List (Addr × Obj)) (s : Shared) (σ : St) (H : Hp) (x y : V) (v u : Value) (Q : VK), Inv X pins σ H s → RelV x v → RelV y u → r x y H Q →
    subscripted slice false v u = operate [v, u] (getItem v u) → wpAny (model X.prog X.w) X.A (subscriptTail value slice v u) (EP X pins σ Q) X.xe s
/-- a call of a builtin's method by values: the receiver, the arguments -/
def MtR (X : Cx) (id : String) (r : V → List V → Hp → VK → Prop) : Prop :=
  ∀ (pins : List (Addr × Obj)) (s : Shared) (σ : St) (H : Hp) (x : V) (xs : List V) (v : Value) (us : List Value) (Q : VK), Inv X pins σ H s → RelV x v → Vals xs us → r x xs H Q →
    wpAny (model X.prog X.w) X.A (call (.builtin id) (v :: us)) (EP X pins σ Q) X.xe s
section
variable {X : Cx} {a b : Expr} {ta tb : TE} {pos : Pos}
theorem IxR.or {r r' : R2} (h : IxR X r) (h' : IxR X r') : IxR X (fun x y H Q => r x y H Q ∨ r' x y H Q) := by
  intro value slice pins s σ H x y v u Q I rx ry q hs
  rcases q with q | q
  · exact h value slice pins s σ H x y v u Q I rx ry q hs
  · exact h' value slice pins s σ H x y v u Q I rx ry q hs
theorem MtR.or {id : String} {r r' : V → List V → Hp → VK → Prop} (h : MtR X id r) (h' : MtR X id r') : MtR X id (fun x xs H Q => r x xs H Q ∨ r' x xs H Q) := by
  intro pins s σ H x xs v us Q I rx rs q
  rcases q with q | q
  · exact h pins s σ H x xs v us Q I rx rs q
  · exact h' pins s σ H x xs v us Q I rx rs q
/-- a[b] -/
theorem pe_ix {r : R2} (hr : IxR X r) (ha : PE X a ta) (hb : PE X b tb) (hs : PlainIx b) : PE X (.Subscript a b pos) (tOp r ta tb) := by
  intro pins s σ H Q I h
  exact Subscript_ (binT ha hb I h fun v u s2 x y H2 I2 rx ry q => hr a b pins s2 σ H2 x y v u Q I2 rx ry q (hs _ _))

inductive I_rIxL (K : PySem.W.Frag) (x y : V) (H : Hp) (Q : VK) : Prop where
  | mk (p : Addr) (xs : List V) (i : Int) (v : V) (h0_ : x = .ref p) (h1_ : y = .int i) (h2_ : SqL K H p xs) (h3_ : atI xs i = some v) (h4_ : Q v H) : I_rIxL K x y H Q
def rIxL (K : PySem.W.Frag) : R2 := fun x y H Q => I_rIxL K x y H Q
inductive I_rIxT (K : PySem.W.Frag) (x y : V) (H : Hp) (Q : VK) : Prop where
  | mk (p : Addr) (xs : List V) (i : Int) (v : V) (h0_ : x = .ref p) (h1_ : y = .int i) (h2_ : SqT K H p xs) (h3_ : atI xs i = some v) (h4_ : Q v H) : I_rIxT K x y H Q
def rIxT (K : PySem.W.Frag) : R2 := fun x y H Q => I_rIxT K x y H Q
def rIxS : R2 := fun x y H Q => ∃ z i c, x = .str z ∧ y = .int i ∧ z.length ≤ sizeLine ∧ atI z.cps.toList i = some c ∧ Q (.str ⟨#[c]⟩) H
theorem ix_list : IxR X (rIxL X.K) := by
  intro value slice pins s σ H x y v u Q I rx ry h hs
  obtain ⟨p, xs, i, z, rfl, rfl, hq, he, q⟩ := h
  cases rx
  obtain ⟨t, rfl⟩ := ry
  obtain ⟨its, r, pl, hz⟩ := I.list hq
  obtain ⟨j, h1, h2, h3, h4, h5⟩ := atI_get he
  obtain ⟨w, ew, rw'⟩ := r.get h2
  have hl := r.length
  have hn := line63
  have fin : EP X pins σ Q w s := ⟨z, H, I, rw', q⟩
  by_cases h0 : 0 ≤ i
  · have hj : i.toNat = j := by
      rw [seqIndex_of h0 h5] at h1
      exact Option.some.inj h1
    exact item_listR pl.isList h0 (by omega) (by rw [hj]; simpa using ew) fin hs
  · have hj : (i + (its.toArray.size : Int)).toNat = j := by
      rw [seqIndex_neg (by omega) h4] at h1
      rw [List.size_toArray, ← hl]
      exact Option.some.inj h1
    exact subscriptTail_builtinR (x := w) pl.isList.typeIs slot_list_getitem.lookup
      (wpAny_getItem_list_neg (Q := fun r s' => r = w ∧ EP X pins σ Q r s') pl.isList (by omega) (by rw [List.size_toArray] <;> omega) (by omega) (by rw [hj]; simpa using ew) ⟨rfl, fin⟩) hs
theorem ix_tup : IxR X (rIxT X.K) := by
  intro value slice pins s σ H x y v u Q I rx ry h hs
  obtain ⟨p, xs, i, z, rfl, rfl, hq, he, q⟩ := h
  cases rx
  obtain ⟨t, rfl⟩ := ry
  obtain ⟨its, r, pl, hz⟩ := I.tuple hq
  obtain ⟨j, h1, h2, h3, h4, h5⟩ := atI_get he
  obtain ⟨w, ew, rw'⟩ := r.get h2
  have hl := r.length
  have hn := line63
  have fin : EP X pins σ Q w s := ⟨z, H, I, rw', q⟩
  exact subscriptTail_builtinR (x := w) pl.typeIs slot_tuple_getitem.lookup
    (getItem_tuple (j := j) (Q := fun r s' => r = w ∧ EP X pins σ Q r s') pl (by omega) (by omega) (by rw [List.size_toArray, ← hl]; exact h1) (by simpa using ew) ⟨rfl, fin⟩) hs
theorem ix_str : IxR X rIxS := by
  intro value slice pins s σ H x y v u Q I rx ry h hs
  obtain ⟨z, i, c, rfl, rfl, hz, he, q⟩ := h
  obtain ⟨t, rfl⟩ := rx
  obtain ⟨t', rfl⟩ := ry
  obtain ⟨j, h1, h2, h3, h4, h5⟩ := atI_get he
  have hl : z.cps.toList.length = z.length := by simp [Str.length]
  rw [hl] at h1 h4 h5
  have hn := line63
  exact tail_any (typeIs_str s z t) slot_str_getitem.lookup (getItem_str (c := c) (by
    have e1 : decide (i < -(2 ^ 63 : Int)) = false := decide_eq_false (by omega)
    have e2 : decide (i ≥ 2 ^ 63) = false := decide_eq_false (by omega)
    rw [e1, e2, Bool.or_false]) (by rw [h1]; simpa using h2) ⟨.str ⟨#[c]⟩, H, I.tok _, ⟨_, rfl⟩, q⟩) hs
/-- list, tuple or str -/
def rIx (K : PySem.W.Frag) : R2 := fun x y H Q => rIxL K x y H Q ∨ rIxT K x y H Q ∨ rIxS x y H Q
theorem ix_seq : IxR X (rIx X.K) := ix_list.or (ix_tup.or ix_str)

/-! ### xs[i] = v, any sign -/
/-- the list's object behind a store -/
theorem mapSeq_set (its : List Value) (n j : Nat) (u : Value) : Obj.mapSeq (·.setIfInBounds j u) { cls := .type "list", data := .seq its.toArray n } = { cls := .type "list", data := .seq (its.set j u).toArray n } := by
  simp [Obj.mapSeq]
theorem Inv.lst {pins : List (Addr × Obj)} {σ : St} {H : Hp} {s : Shared} {p : Addr} {xs : List V} (I : Inv X pins σ H s) (h : H p = some (.lst xs)) :
    ∃ (its : List Value) (n : Nat), Vals xs its ∧ s.heap.get? p = some { cls := .type "list", data := .seq its.toArray n } ∧ xs.length ≤ sizeLine := by
  obtain ⟨z, its, n, r, e⟩ := I.hok p _ h
  exact ⟨its, n, r, e, z⟩
/-- the list at p is written by an update of its object -/
theorem Inv.lstUpd {pins : List (Addr × Obj)} {σ : St} {H : Hp} {s : Shared} {p : Addr} {xs ys : List V} {its its' : List Value} {n n' : Nat} {f : Obj → Obj} (I : Inv X pins σ H s) (h : H p = some (.lst xs))
    (ho : s.heap.get? p = some { cls := .type "list", data := .seq its.toArray n }) (hf : f { cls := .type "list", data := .seq its.toArray n } = { cls := .type "list", data := .seq its'.toArray n' }) (r : Vals ys its') (hz : ys.length ≤ sizeLine) (t : Nat) :
    Inv X pins σ (upd H p (.lst ys)) { s with heap := s.heap.update p f, toks := t } := by
  have e : (s.heap.update p f).get? p = some { cls := .type "list", data := .seq its'.toArray n' } := by
    rw [Heap.get?_update_self f ho (by rw [hf] <;> rfl), hf]
  refine I.write (x := p) (e := p) (by rw [h]; trivial) (.inl rfl) (fun b u hb q => (Heap.get?_update_other _ _ (Ne.symm hb)).trans q) ⟨_, e⟩ ?_
  exact ⟨hz, its', n', r, e⟩
inductive I_rSetL (o i v : V) (H : Hp) (Q : Hp → Prop) : Prop where
  | mk (p : Addr) (xs : List V) (k : Int) (j : Nat) (h0_ : o = .ref p) (h1_ : i = .int k) (h2_ : H p = some (.lst xs)) (h3_ : ixN xs.length k = some j) (h4_ : Q (upd H p (.lst (xs.set j v)))) : I_rSetL  o i v H Q
def rSetL : V → V → V → Hp → (Hp → Prop) → Prop := fun o i v H Q => I_rSetL  o i v H Q
theorem set_list : PSet X rSetL := by
  intro pins s σ H o i v ov iv u Q I ro ri rv h
  obtain ⟨p, xs, k, j, rfl, rfl, hp, hj, q⟩ := h
  cases ro
  obtain ⟨t, rfl⟩ := ri
  obtain ⟨its, n, r, ho, hz⟩ := I.lst hp
  obtain ⟨h1, h2, h3, h4⟩ := ixN_seq hj
  have hl := r.length
  have hn := line63
  have I' : Inv X pins σ (upd H p (.lst (xs.set j v))) { s with heap := s.heap.update p (Obj.mapSeq (·.setIfInBounds j u)) } :=
    I.lstUpd hp ho (mapSeq_set its n j u) (r.set rv j) (by rw [List.length_set]; exact hz) s.toks
  by_cases h0 : 0 ≤ k
  · have hk : k.toNat = j := by
      rw [seqIndex_of h0 h4] at h1
      exact Option.some.inj h1
    exact PySem.W.ki_setAt ho h0 (by omega) (by rw [List.size_toArray, ← hl]; exact h4) (by rw [hk]; exact ⟨_, I', q⟩)
  · have hk : (k + (its.toArray.size : Int)).toNat = j := by
      rw [seqIndex_neg (by omega) h3] at h1
      rw [List.size_toArray, ← hl]
      exact Option.some.inj h1
    exact PySem.W.ki_setBack ho (by omega) (by rw [List.size_toArray, ← hl]; exact h3) (by omega) (by rw [hk]; exact ⟨_, I', q⟩)

/-! ### slices -/
theorem slice_bounds (lo hi : Option Int) (n : Nat) : (sliceBounds lo hi none n).1 = ((HT.sIx n 0 lo : Nat) : Int) ∧ (sliceBounds lo hi none n).2.1 = ((HT.sIx n n hi : Nat) : Int) ∧ (sliceBounds lo hi none n).2.2 = 1 := by
  refine ⟨?_, ?_, rfl⟩
  · cases lo with
    | none => simp [sliceBounds, HT.sIx]
    | some i =>
      simp only [sliceBounds, HT.sIx, Option.getD_none, show (1 : Int) > 0 by decide, if_true]
      by_cases h : i < 0
      · simp only [h, if_true] <;> omega
      · simp only [h, if_false] <;> omega
  · cases hi with
    | none => simp [sliceBounds, HT.sIx]
    | some i =>
      simp only [sliceBounds, HT.sIx, Option.getD_none, show (1 : Int) > 0 by decide, if_true]
      by_cases h : i < 0
      · simp only [h, if_true] <;> omega
      · simp only [h, if_false] <;> omega
theorem slicePick_cut (its : List Value) (lo hi : Option Int) : slicePick its.toArray lo hi none = ((its.drop (HT.sIx its.length 0 lo)).take (HT.sIx its.length its.length hi - HT.sIx its.length 0 lo)).toArray := by
  obtain ⟨h1, h2, h3⟩ := slice_bounds lo hi its.toArray.size
  unfold slicePick
  rw [h1, h2, h3]
  simp only [sliceRange_one, pick_run, List.size_toArray] <;> rfl
/-- xs[lo:hi] of a list: a new list -/
inductive I_rSlL (K : PySem.W.Frag) (x : V) (lo hi : Option Int) (H : Hp) (Q : VK) : Prop where
  | mk (a : Addr) (xs : List V) (h0_ : x = .ref a) (h1_ : SqL K H a xs) (h2_ : ∀ p, H p = none → Q (.ref p) (upd H p (.lst (cutV xs lo hi)))) : I_rSlL K x lo hi H Q
def rSlL (K : PySem.W.Frag) : V → Option Int → Option Int → Hp → VK → Prop := fun x lo hi H Q => I_rSlL K x lo hi H Q
theorem sl_list : SlR X (rSlL X.K) := by
  intro pins s σ H x v vl vu lo hi sl Q I rx hs pl pu h
  obtain ⟨a, xs, rfl, hx, q⟩ := h
  cases rx
  obtain ⟨its, r, ht, hz⟩ := I.list hx
  have hlen := r.length
  refine ⟨"list", _, slot_list_getitem.lookup, ht.isList.typeIs, ?_⟩
  refine wpAny_getItem_list_slice ht.isList hs pl pu .none (by simp) ?_ (by rw [List.size_toArray] <;> omega)
  rw [slicePick_cut, ← hlen]
  refine ⟨.ref s.heap.objs.size, _, I.laid (t' := s.toks) (o := .lst (cutV xs lo hi)) (fun b ob q => Heap.get?_push_of_some _ q) (Nat.le_refl _) ?_, rfl, q _ (I.hok.fresh (Nat.le_refl _))⟩
  exact ⟨Nat.le_trans (cutV_length xs lo hi) hz, _, 0, (r.drop (HT.sIx xs.length 0 lo)).take (HT.sIx xs.length xs.length hi - HT.sIx xs.length 0 lo), Heap.get?_push_size _ rfl⟩

/-! ### in, not in: flat items -/
def flatV : V → Bool
  | .non => true
  | .bl _ => true
  | .int _ => true
  | .str _ => true
  | _ => false
/-- == of flat values -/
def eqV : V → V → Bool
  | .non, .non => true
  | .bl a, .bl b => a == b
  | .bl a, .int b => (if a then 1 else 0) == b
  | .int a, .bl b => a == (if b then 1 else 0)
  | .int a, .int b => a == b
  | .str a, .str b => a == b
  | _, _ => false
theorem eqAt_V {A : Around} {s : Shared} {y x : V} {u v : Value} (ry : RelV y u) (rx : RelV x v) (fy : flatV y = true) (fx : flatV x = true) : SeqAt.EqAt A s u v (eqV y x) := by
  cases y with
  | non =>
    cases ry
    cases x with
    | non => cases rx; exact SeqAt.EqAt.same _
    | bl b => cases rx; exact SeqAt.EqAt.none_bool b
    | int b => obtain ⟨t, rfl⟩ := rx; exact SeqAt.EqAt.none_int b t
    | str b => obtain ⟨t, rfl⟩ := rx; exact SeqAt.EqAt.none_str b t
    | _ => exact absurd (show false = true from fx) Bool.false_ne_true
  | bl a =>
    cases ry
    cases x with
    | non => cases rx; exact SeqAt.EqAt.bool_none a
    | bl b => cases rx; exact SeqAt.EqAt.bool_bool a b
    | int b => obtain ⟨t, rfl⟩ := rx; exact SeqAt.EqAt.bool_int a b t
    | str b => obtain ⟨t, rfl⟩ := rx; exact SeqAt.EqAt.bool_str a b t
    | _ => exact absurd (show false = true from fx) Bool.false_ne_true
  | int a =>
    obtain ⟨t', rfl⟩ := ry
    cases x with
    | non => cases rx; exact SeqAt.EqAt.int_none a t'
    | bl b => cases rx; exact SeqAt.EqAt.int_bool a t' b
    | int b => obtain ⟨t, rfl⟩ := rx; exact SeqAt.EqAt.int_int a t' b t
    | str b => obtain ⟨t, rfl⟩ := rx; exact SeqAt.EqAt.int_str a t' b t
    | _ => exact absurd (show false = true from fx) Bool.false_ne_true
  | str a =>
    obtain ⟨t', rfl⟩ := ry
    cases x with
    | non => cases rx; exact SeqAt.EqAt.str_none a t'
    | bl b => cases rx; exact SeqAt.EqAt.str_bool a t' b
    | int b => obtain ⟨t, rfl⟩ := rx; exact SeqAt.EqAt.str_int a t' b t
    | str b => obtain ⟨t, rfl⟩ := rx; exact SeqAt.EqAt.str_str a t' b t
    | _ => exact absurd (show false = true from fx) Bool.false_ne_true
  | _ => exact absurd (show false = true from fy) Bool.false_ne_true
/-- the items' answers, read off the values (a value's own answer does not lean on its token) -/
def eqU (x : V) (u : Value) : Bool := match u with
  | .none => eqV .non x
  | .bool b => eqV (.bl b) x
  | .int i _ => eqV (.int i) x
  | .str z _ => eqV (.str z) x
  | _ => false
theorem eqU_of {x y : V} {u : Value} (r : RelV y u) (f : flatV y = true) : eqU x u = eqV y x := by
  cases y with
  | non => cases r; rfl
  | bl b => cases r; rfl
  | int i => obtain ⟨t, rfl⟩ := r; rfl
  | str z => obtain ⟨t, rfl⟩ := r; rfl
  | _ => exact absurd (show false = true from f) Bool.false_ne_true
theorem any_eqU {x : V} : ∀ {xs : List V} {us : List Value}, Vals xs us → xs.all flatV = true → us.any (eqU x) = xs.any fun y => eqV y x
  | _, _, .nil, _ => rfl
  | y :: xs, u :: us, .cons r t, f => by
    rw [List.all_cons, Bool.and_eq_true] at f
    rw [List.any_cons, List.any_cons, eqU_of r f.1, any_eqU t f.2]
theorem mem_eqAt {A : Around} {s : Shared} {x : V} {v : Value} (rx : RelV x v) (fx : flatV x = true) : ∀ {xs : List V} {us : List Value}, Vals xs us → xs.all flatV = true → ∀ u ∈ us, SeqAt.EqAt A s u v (eqU x u)
  | _, _, .nil, _ => fun u hu => by cases hu
  | y :: xs, u :: us, .cons r t, f => fun u' hu => by
    rw [List.all_cons, Bool.and_eq_true] at f
    rcases List.mem_cons.mp hu with rfl | hu
    · rw [eqU_of r f.1]; exact eqAt_V r rx f.1 fx
    · exact mem_eqAt rx fx t f.2 u' hu
def inV (x : V) (xs : List V) : Bool := xs.any fun y => eqV y x
/-- x in a list or tuple of flat items -/
def rIn (K : PySem.W.Frag) (neg : Bool) : R2 := fun x y H Q => ∃ p xs, y = .ref p ∧ (SqL K H p xs ∨ SqT K H p xs) ∧ flatV x = true ∧ xs.all flatV = true ∧ Q (.bl (if neg then !inV x xs else inV x xs)) H
theorem op_in_seq : OpR X (compareOp .In) (rIn X.K false) := by
  intro pins s σ H x y v u Q I rx ry h
  obtain ⟨p, xs, rfl, hq, fx, fs, q⟩ := h
  cases ry
  rcases hq with hq | hq
  · obtain ⟨its, r, pl, hz⟩ := I.list hq
    refine SeqAt.in_listAt (eqU x) pl.isList (fun w hw => mem_eqAt rx fx r fs w (by simpa using hw)) ⟨.bl _, H, I, rfl, ?_⟩
    rw [show its.toArray.any (eqU x) = its.any (eqU x) by simp, any_eqU r fs]
    exact q
  · obtain ⟨its, r, pl, hz⟩ := I.tuple hq
    refine SeqAt.in_tupleAt (eqU x) pl (fun w hw => mem_eqAt rx fx r fs w (by simpa using hw)) ⟨.bl _, H, I, rfl, ?_⟩
    rw [show its.toArray.any (eqU x) = its.any (eqU x) by simp, any_eqU r fs]
    exact q
theorem op_notIn_seq : OpR X (compareOp .NotIn) (rIn X.K true) := by
  intro pins s σ H x y v u Q I rx ry h
  obtain ⟨p, xs, rfl, hq, fx, fs, q⟩ := h
  cases ry
  rcases hq with hq | hq
  · obtain ⟨its, r, pl, hz⟩ := I.list hq
    refine SeqAt.notIn_listAt (eqU x) pl.isList (fun w hw => mem_eqAt rx fx r fs w (by simpa using hw)) ⟨.bl _, H, I, rfl, ?_⟩
    rw [show its.toArray.any (eqU x) = its.any (eqU x) by simp, any_eqU r fs]
    exact q
  · obtain ⟨its, r, pl, hz⟩ := I.tuple hq
    refine SeqAt.notIn_tupleAt (eqU x) pl (fun w hw => mem_eqAt rx fx r fs w (by simpa using hw)) ⟨.bl _, H, I, rfl, ?_⟩
    rw [show its.toArray.any (eqU x) = its.any (eqU x) by simp, any_eqU r fs]
    exact q
theorem op_notIn_str : OpR X (compareOp .NotIn) (fun x y H Q => ∃ i j, x = .str i ∧ y = .str j ∧ Q (.bl (!(!(Builtin.Str.occurrences j i 0 j.length 1).isEmpty))) H) := by
  intro pins s σ H x y v u Q I rx ry h
  obtain ⟨i, j, rfl, rfl, q⟩ := h
  obtain ⟨t, rfl⟩ := rx
  obtain ⟨t', rfl⟩ := ry
  exact notIn_str ⟨.bl _, H, I, rfl, q⟩

/-! ### len, list(x), tuple(x) of any list or tuple that is read -/
theorem call_len_seq : CallR X (.builtin "len") (fun xs H Q => ∃ p ys, xs = [.ref p] ∧ (SqL X.K H p ys ∨ SqT X.K H p ys) ∧ Q (.int ys.length) H) := by
  intro pins s σ H xs us Q I r h
  obtain ⟨p, ys, rfl, hq, q⟩ := h
  obtain ⟨u, rfl, rx⟩ := vals1 r
  cases rx
  have hn := line63
  rcases hq with hq | hq
  · obtain ⟨its, r', pl, hz⟩ := I.list hq
    have hlen := r'.length
    exact Calls.call_len_list pl.isList (by simp only [List.size_toArray] <;> omega) ⟨.int ys.length, H, I.tok _, ⟨s.toks + 1, by rw [List.size_toArray, hlen]⟩, q⟩
  · obtain ⟨its, r', pl, hz⟩ := I.tuple hq
    have hlen := r'.length
    exact len_tuple pl (by simp only [List.size_toArray] <;> omega) ⟨.int ys.length, H, I.tok _, ⟨s.toks + 1, by rw [List.size_toArray, hlen]⟩, q⟩
theorem call_len_str : CallR X (.builtin "len") (fun xs H Q => ∃ z, xs = [.str z] ∧ z.length ≤ sizeLine ∧ Q (.int z.length) H) := by
  intro pins s σ H xs us Q I r h
  obtain ⟨z, rfl, hz, q⟩ := h
  obtain ⟨u, rfl, t, rfl⟩ := vals1 r
  have hn := line63
  exact len_str (by omega) ⟨.int z.length, H, I.tok _, ⟨_, rfl⟩, q⟩
theorem CallR.or {f : Value} {r r' : List V → Hp → VK → Prop} (h : CallR X f r) (h' : CallR X f r') : CallR X f (fun xs H Q => r xs H Q ∨ r' xs H Q) := by
  intro pins s σ H xs us Q I rs q
  rcases q with q | q
  · exact h pins s σ H xs us Q I rs q
  · exact h' pins s σ H xs us Q I rs q
theorem call_list_of : CallR X (.type "list") (fun xs H Q => ∃ p ys, xs = [.ref p] ∧ (SqL X.K H p ys ∨ SqT X.K H p ys) ∧ ∀ l, H l = none → Q (.ref l) (upd H l (.lst ys))) := by
  intro pins s σ H xs us Q I r h
  obtain ⟨p, ys, rfl, hq, q⟩ := h
  obtain ⟨u, rfl, rx⟩ := vals1 r
  cases rx
  have fin : ∀ (its : List Value), Vals ys its → ys.length ≤ sizeLine → ∀ (h' : Heap) (c' : Nat), (∀ b o', s.heap.get? b = some o' → h'.get? b = some o') →
      h'.get? s.heap.objs.size = some { cls := .type "list", dict := none, data := .seq its.toArray c', slots := #[] } → EP X pins σ Q (.ref s.heap.objs.size) { s with heap := h' } := fun its r' hz h' c' kp e =>
    ⟨.ref s.heap.objs.size, _, I.laid (t' := s.toks) kp (Nat.le_refl _) (show ObjOk X.prog X.w _ h' _ (.lst ys) from ⟨hz, its, c', r', e⟩), rfl, q _ (I.hok.fresh (Nat.le_refl _))⟩
  rcases hq with hq | hq
  · obtain ⟨its, r', pl, hz⟩ := I.list hq
    have hlen := r'.length
    obtain ⟨o, ho, hc, n, hd⟩ := pl.isList
    exact call_list_seq p (.inl rfl) ho hc hd (fun h' c' kp e => fin its r' hz h' c' kp e) (by simp only [List.size_toArray] <;> omega)
  · obtain ⟨its, r', pl, hz⟩ := I.tuple hq
    have hlen := r'.length
    obtain ⟨o, ho, hc, n, hd⟩ := pl
    exact call_list_seq p (.inr rfl) ho hc hd (fun h' c' kp e => fin its r' hz h' c' kp e) (by simp only [List.size_toArray] <;> omega)
theorem call_tuple_of : CallR X (.type "tuple") (fun xs H Q => ∃ p ys, xs = [.ref p] ∧ ((SqL X.K H p ys ∧ ∀ l, H l = none → Q (.ref l) (upd H l (.tup ys))) ∨ (SqT X.K H p ys ∧ Q (.ref p) H))) := by
  intro pins s σ H xs us Q I r h
  obtain ⟨p, ys, rfl, h⟩ := h
  obtain ⟨u, rfl, rx⟩ := vals1 r
  cases rx
  rcases h with ⟨hq, q⟩ | ⟨hq, q⟩
  · obtain ⟨its, r', pl, hz⟩ := I.list hq
    have hlen := r'.length
    refine call_tuple_list pl.isList (fun h' kp => ?_) (by simp only [List.size_toArray] <;> omega)
    have I1 : Inv X pins σ H { s with heap := h' } := I.kept (t' := s.toks) kp
    have I2 : Inv X pins σ (upd H h'.objs.size (.tup ys)) { s with heap := h'.push { cls := .type "tuple", data := .seq its.toArray } } :=
      I1.laid (t' := s.toks) (fun b o e => Heap.get?_push_of_some _ e) (Nat.le_refl _) (show ObjOk X.prog X.w _ _ _ (.tup ys) from ⟨hz, its, r', IsTup.new _ _⟩)
    exact ⟨.ref h'.objs.size, _, I2, rfl, q _ (I1.hok.fresh (Nat.le_refl _))⟩
  · obtain ⟨its, r', pl, hz⟩ := I.tuple hq
    exact call_tuple_same pl ⟨.ref p, H, I, rfl, q⟩

/-! ### the call of a builtin's method: o.m(..) -/
/-- the value is of that builtin type -/
def tyV (K : PySem.W.Frag) (T : String) (x : V) (H : Hp) : Prop := match x with
  | .str _ => T = "str"
  | .int _ => T = "int"
  | .ref p => (T = "list" ∧ ∃ xs, SqL K H p xs) ∨ (T = "tuple" ∧ ∃ o, K.lookup p = some o ∧ o.cls = .type "tuple" ∧ o.dict = none) ∨
      (T = "dict" ∧ ((∃ kvs, H p = some (.dK kvs)) ∨ ∃ kvs, H p = some (.dT kvs))) ∨ (T = "set" ∧ ∃ S n, H p = some (.set S n))
  | _ => False
theorem tyV_is {pins : List (Addr × Obj)} {σ : St} {H : Hp} {s : Shared} {T : String} {x : V} {v : Value} (I : Inv X pins σ H s) (r : RelV x v) (ty : tyV X.K T x H) :
    s.TypeIs v T ∧ ∀ a, v = .ref a → ∃ ob, s.heap.get? a = some ob ∧ ob.dict = none := by
  cases x with
  | str z =>
    obtain ⟨t, rfl⟩ := r
    cases (show T = "str" from ty)
    exact ⟨typeIs_str s z t, fun _ e => nomatch e⟩
  | int i =>
    obtain ⟨t, rfl⟩ := r
    cases (show T = "int" from ty)
    exact ⟨typeIs_int s i t, fun _ e => nomatch e⟩
  | ref p =>
    cases r
    rcases ty with ⟨rfl, xs, hq⟩ | ⟨rfl, o, hk, hc, hd⟩ | ⟨rfl, hk⟩ | ⟨rfl, S, n, hk⟩
    · obtain ⟨its, _, pl, _⟩ := I.list hq
      refine ⟨pl.isList.typeIs, fun a e => ?_⟩
      cases e
      obtain ⟨o, n, e, c, hd, _⟩ := pl
      exact ⟨o, e, hd⟩
    · refine ⟨⟨o, I.kIn p o hk, hc⟩, fun a e => ?_⟩
      cases e
      exact ⟨o, I.kIn _ o hk, hd⟩
    · have z : ∃ o, s.heap.get? p = some o ∧ o.ExactDict := by
        rcases hk with ⟨kvs, hk⟩ | ⟨kvs, hk⟩
        · obtain ⟨_, _, _, _, o, _, _, e, ex, _⟩ := I.hok p _ hk
          exact ⟨o, e, ex⟩
        · obtain ⟨_, _, _, _, o, _, _, e, ex, _⟩ := I.hok p _ hk
          exact ⟨o, e, ex⟩
      obtain ⟨o, e, ex⟩ := z
      refine ⟨⟨o, e, ex.1⟩, fun a e2 => ?_⟩
      cases e2
      exact ⟨o, e, ex.2.1⟩
    · obtain ⟨o, _, _, _, e, ex, _⟩ := I.hok p _ hk
      refine ⟨⟨o, e, ex.1⟩, fun a e2 => ?_⟩
      cases e2
      exact ⟨o, e, ex.2.1⟩
  | _ => exact False.elim ty
def tBM0 (K : PySem.W.Frag) (T : String) (r : V → List V → Hp → VK → Prop) (to : TE) : TE := fun σ H Q => to σ H fun x H1 => tyV K T x H1 ∧ r x [] H1 Q
def tBM (K : PySem.W.Frag) (T : String) (r : V → List V → Hp → VK → Prop) (to : TE) (t : TA) : TE := fun σ H Q => to σ H fun x H1 => tyV K T x H1 ∧ t σ H1 fun xs H2 => r x xs H2 Q
variable {o e : Expr} {es : List Expr} {to : TE} {t : TA} {name : Str} {apos cpos : Pos} {T id : String} {r : V → List V → Hp → VK → Prop}
theorem pe_bm0 (pa : PlainAttrs T) (slot : Slot T name id) (hty : typeOf (.builtin id) = pure (.type "method_descriptor")) (hm : MtR X id r) (ho : PE X o to)
    (hbase : attributeBase o name X.env (eval o X.env) = eval o X.env := by rfl) (hline : (apos.endLine == cpos.line) = true := by rfl) : PE X (.Call (.Attribute o name apos) [] [] cpos) (tBM0 X.K T r to) := by
  intro pins s σ H Q I h
  refine wpAny_Call_method0_late hbase hline (thn (ho pins s σ H _ I h) fun v s1 ⟨x, H1, I1, r1, ty, q1⟩ => ?_)
  obtain ⟨h1, h2⟩ := tyV_is I1 r1 ty
  exact ⟨T, id, pa, slot, hty, h1, h2, Calls.callWith_builtin rfl (PySem.evalArgs_none (hm pins s1 σ H1 x [] v [] Q I1 r1 .nil q1))⟩
theorem pe_bm (pa : PlainAttrs T) (slot : Slot T name id) (hty : typeOf (.builtin id) = pure (.type "method_descriptor")) (hm : MtR X id r) (ho : PE X o to) (ha : PA X (e :: es) t)
    (hbase : attributeBase o name X.env (eval o X.env) = eval o X.env := by rfl)
    (hfew : ((backTo cpos (starEach (e :: es) X.env)).all (fun x => !x.1) && (backToKw cpos (keywordEach [] X.env)).all (fun x => x.1.isSome)
      && decide ((e :: es).length + ([] : List Keyword).length + (if ([] : List Keyword).isEmpty then 0 else 1) < 30)) = true := by rfl)
    (hline : (apos.endLine == cpos.line) = true := by rfl) (hs : starEach (e :: es) X.env = (false, eval e X.env) :: starEach es X.env := by rfl) (hplain : (backTo cpos (starEach es X.env)).any (·.1) = false := by rfl) :
    PE X (.Call (.Attribute o name apos) (e :: es) [] cpos) (tBM X.K T r to t) := by
  intro pins s σ H Q I h
  refine wpAny_Call_method_late hbase hfew hline rfl (thn (ho pins s σ H _ I h) fun v s1 ⟨x, H1, I1, r1, ty, q1⟩ => ?_)
  obtain ⟨h1, h2⟩ := tyV_is I1 r1 ty
  refine ⟨T, id, pa, slot, hty, h1, h2, ?_⟩
  have hA := ha cpos pins s1 σ H1 _ I1 q1
  rw [hs] at hA ⊢
  refine Calls.callWith_builtin (by show (false || (backTo cpos (starEach es X.env)).any (·.1)) = false; rw [hplain] <;> rfl) (Calls.evalArgs_plain ?_)
  exact thn hA fun us s2 ⟨vs, H2, I2, r2, q2⟩ => hm pins s2 σ H2 x vs v us Q I2 r1 r2 q2
/- xs.append(e), list.index on a module's tuple .. are MtR facts of 06m -/
end
end L2

namespace L2
open PySem PySem.Spec PyProof.Rows

def MtM (X : Cx) (id : String) (r : V → List V → Hp → VK → Prop) : Prop :=
  ∀ (pins : List (Addr × Obj)) (s : Shared) (σ : St) (H : Hp) (x : V) (xs : List V) (v : Value) (us : List Value) (Q : VK), Inv X pins σ H s → RelV x v → Vals xs us → r x xs H Q →
    wpAny (model X.prog X.w) X.A (call (.builtin id) (v :: us)) (EP X pins σ Q) X.xe s

/-! ### lists of values -/
theorem Vals.one : ∀ {x : V} {us : List Value}, Vals [x] us → ∃ u, us = [u] ∧ RelV x u
  | _, _, .cons r .nil => ⟨_, rfl, r⟩
theorem Vals.two : ∀ {x y : V} {us : List Value}, Vals [x, y] us → ∃ u v, us = [u, v] ∧ RelV x u ∧ RelV y v
  | _, _, _, .cons r (.cons q .nil) => ⟨_, _, rfl, r, q⟩
theorem Vals.zero : ∀ {us : List Value}, Vals [] us → us = []
  | _, .nil => rfl
theorem Vals.dropLast {xs : List V} {us : List Value} (h : Vals xs us) : Vals xs.dropLast us.dropLast := by
  induction h with
  | nil => exact .nil
  | cons r t ih =>
    cases t with
    | nil => exact .nil
    | cons q t' => exact .cons r ih
theorem Vals.eraseIdx : ∀ {xs : List V} {us : List Value} (i : Nat), Vals xs us → Vals (xs.eraseIdx i) (us.eraseIdx i)
  | _, _, _, .nil => .nil
  | _, _, 0, .cons _ t => t
  | _, _, i + 1, .cons r t => .cons r (Vals.eraseIdx i t)
theorem Vals.reverse {xs : List V} {us : List Value} (h : Vals xs us) : Vals xs.reverse us.reverse := by
  induction h with
  | nil => exact .nil
  | cons r t ih => rw [List.reverse_cons, List.reverse_cons]; exact Vals.append ih (.cons r .nil)
theorem Vals.rep {xs : List V} {us : List Value} (h : Vals xs us) : ∀ k : Nat, Vals (List.replicate k xs).flatten (List.replicate k us).flatten
  | 0 => .nil
  | k + 1 => by
    rw [List.replicate_succ, List.replicate_succ, List.flatten_cons, List.flatten_cons]
    exact Vals.append h (Vals.rep h k)
theorem erase_last {α : Type} (l : List α) : l.eraseIdx (l.length - 1) = l.dropLast := by
  induction l with
  | nil => rfl
  | cons a r ih =>
    cases r with
    | nil => rfl
    | cons b r =>
      have e : (a :: b :: r).length - 1 = ((b :: r).length - 1) + 1 := by
        have h1 : (a :: b :: r).length = r.length + 2 := rfl
        have h2 : (b :: r).length = r.length + 1 := rfl
        omega
      rw [e, List.eraseIdx_cons_succ, ih]
      all_goals rfl
theorem len_erase {α : Type} : ∀ (l : List α) (i : Nat), (l.eraseIdx i).length ≤ l.length
  | [], _ => Nat.le_refl _
  | _ :: _, 0 => Nat.le_succ _
  | _ :: r, i + 1 => Nat.succ_le_succ (len_erase r i)
theorem foldl_rep (its : List Value) : ∀ (k : Nat) (acc : List Value),
    List.foldl (fun x1 x2 => x1 ++ x2) acc.toArray (List.replicate k its.toArray) = (acc ++ (List.replicate k its).flatten).toArray
  | 0, acc => by simp
  | k + 1, acc => by
    have e : acc.toArray ++ its.toArray = (acc ++ its).toArray := by simp
    have e2 : (acc ++ its) ++ (List.replicate k its).flatten = acc ++ (List.replicate (k + 1) its).flatten := by
      rw [List.replicate_succ, List.flatten_cons, List.append_assoc]
    rw [← e2, ← foldl_rep its k (acc ++ its), ← e, List.replicate_succ, List.foldl_cons]

section
variable {X : Cx} {pins : List (Addr × Obj)} {σ : St} {H : Hp} {s : Shared} {l b : Addr} {xs ys zs : List V}

/-! ### the two steps: a tracked list is rewritten, a new list is laid -/
theorem Inv.lset {its its' : List Value} {n : Nat} {f : Array Value → Array Value} {t' : Nat} (I : Inv X pins σ H s) (hH : H l = some (.lst xs))
    (e : s.heap.get? l = some { cls := .type "list", data := .seq its.toArray n }) (hf : f its.toArray = its'.toArray) (hv : Vals ys its') (hz : ys.length ≤ sizeLine) :
    Inv X pins σ (upd H l (.lst ys)) { s with heap := s.heap.update l (Obj.mapSeq f), toks := t' } := by
  have q := PySem.IsL.update e f
  rw [hf] at q
  refine I.write (x := l) (e := l) (by rw [hH]; exact trivial) (.inl rfl) (fun b' u hb hu => (Heap.get?_update_other s.heap (Obj.mapSeq f) (Ne.symm hb)).trans hu) ⟨_, q⟩ ?_
  exact ⟨hz, its', _, hv, q⟩
theorem Inv.lnew {its : List Value} {t' : Nat} (I : Inv X pins σ H s) (hv : Vals ys its) (hz : ys.length ≤ sizeLine) :
    Inv X pins σ (upd H s.heap.objs.size (.lst ys)) { s with heap := s.heap.push { cls := .type "list", data := .seq its.toArray }, toks := t' } :=
  I.laid (fun _ _ q => Heap.get?_push_of_some _ q) (Nat.le_refl _) ⟨hz, its, 0, hv, Heap.get?_push_size _ rfl⟩
theorem Inv.fresh (I : Inv X pins σ H s) : H s.heap.objs.size = none := I.hok.fresh (Nat.le_refl _)
theorem Inv.lstM (I : Inv X pins σ H s) (hH : H l = some (.lst xs)) : xs.length ≤ sizeLine ∧ ∃ (its : List Value) (n : Nat), Vals xs its ∧ xs.length = its.length ∧ s.heap.get? l = some { cls := .type "list", data := .seq its.toArray n } := by
  obtain ⟨z, its, n, r, e⟩ := I.hok l _ hH
  exact ⟨z, its, n, r, r.length, e⟩

theorem notLongL {n : Nat} (h : n ≤ sizeLine) : Builtin.List.listTooLong n = false := by
  unfold Builtin.List.listTooLong
  exact decide_eq_false (by omega)
end

section
variable {X : Cx}

/-! ### methods -/
inductive I_rAppend (x : V) (vs : List V) (H : Hp) (Q : VK) : Prop where
  | mk (l : Addr) (xs : List V) (y : V) (h0_ : x = .ref l) (h1_ : vs = [y]) (h2_ : H l = some (.lst xs)) (h3_ : xs.length < sizeLine) (h4_ : Q .non (upd H l (.lst (xs ++ [y])))) : I_rAppend  x vs H Q
def rAppend : V → List V → Hp → VK → Prop := fun x vs H Q => I_rAppend  x vs H Q
theorem mt_append : MtM X "list.append" rAppend := by
  intro pins s σ H x vs v us Q I rx rv h
  obtain ⟨l, xs, y, rfl, rfl, hH, hz, q⟩ := h
  cases rx
  obtain ⟨u, rfl, ru⟩ := rv.one
  obtain ⟨z, its, n, r, hl, e⟩ := I.lstM hH
  refine call_meets F.slot_list_append ⟨_, e, rfl⟩ F.entry_list_append (F.args_list_append_2 _ _) (PySem.list_append l its.toArray n u (by rw [List.size_toArray]; omega)) ⟨e, ?_⟩
  refine ⟨.non, _, I.lset (its' := its ++ [u]) hH e (by simp) (r.append (.cons ru .nil)) ?_, rfl, q⟩
  rw [List.length_append, List.length_singleton]
  omega

def rExtend : V → List V → Hp → VK → Prop := fun x vs H Q => ∃ l b xs zs, x = .ref l ∧ vs = [.ref b] ∧ H l = some (.lst xs) ∧ H b = some (.lst zs) ∧ xs.length + zs.length ≤ sizeLine ∧ Q .non (upd H l (.lst (xs ++ zs)))
theorem mt_extend : MtM X "list.extend" rExtend := by
  intro pins s σ H x vs v us Q I rx rv h
  obtain ⟨l, b, xs, zs, rfl, rfl, hH, hB, hz, q⟩ := h
  cases rx
  obtain ⟨u, rfl, ru⟩ := rv.one
  cases ru
  obtain ⟨z, its, n, r, hl, e⟩ := I.lstM hH
  obtain ⟨z2, its2, n2, r2, hl2, e2⟩ := I.lstM hB
  have hsz : its.toArray.size + its2.toArray.size ≤ sizeLine := by rw [List.size_toArray, List.size_toArray]; omega
  have hlong : ¬ (!its.toArray.isEmpty && Builtin.List.listTooLong (its.toArray.size + its2.toArray.size)) = true := by
    rw [notLongL hsz, Bool.and_false]
    exact Bool.false_ne_true
  refine call_meets F.slot_list_extend ⟨_, e, rfl⟩ F.entry_list_extend (F.args_list_extend_2 _ _)
    (AutoSeq1.list_extend_list_list_0 l its.toArray n b its2.toArray n2 hlong (by rw [List.size_toArray]; omega) (by omega)) ⟨e, e2, ?_⟩
  refine ⟨.non, _, I.lset (its' := its ++ its2) hH e (by simp) (r.append r2) ?_, rfl, q⟩
  rw [List.length_append]
  omega

def rPop : V → List V → Hp → VK → Prop := fun x vs H Q => ∃ l xs y, x = .ref l ∧ vs = [] ∧ H l = some (.lst xs) ∧ xs[xs.length - 1]? = some y ∧ Q y (upd H l (.lst xs.dropLast))
theorem mt_pop : MtM X "list.pop" rPop := by
  intro pins s σ H x vs v us Q I rx rv h
  obtain ⟨l, xs, y, rfl, rfl, hH, hy, q⟩ := h
  cases rx
  have hus := rv.zero
  subst hus
  obtain ⟨z, its, n, r, hl, e⟩ := I.lstM hH
  obtain ⟨u, hu, ru⟩ := r.get hy
  have hy' : its.toArray[its.toArray.size - 1]? = some u := by
    show its.toArray[its.length - 1]? = some u
    rw [← Array.getElem?_toList, ← hl]
    exact hu
  refine call_meets F.slot_list_pop ⟨_, e, rfl⟩ F.entry_list_pop (F.args_list_pop_1 _) (MeetsSeq.list_pop_last l its.toArray n u hy' (by rw [List.size_toArray]; omega)) ⟨e, ?_⟩
  refine ⟨y, _, I.lset (its' := its.dropLast) hH e ?_ r.dropLast ?_, ru, q⟩
  · show its.toArray.eraseIdxIfInBounds (its.toArray.size - 1) = its.dropLast.toArray
    rw [List.size_toArray, List.eraseIdxIfInBounds_toArray, erase_last]
  · rw [List.length_dropLast]
    omega

def rPopAt : V → List V → Hp → VK → Prop := fun x vs H Q => ∃ l xs i k y, x = .ref l ∧ vs = [.int i] ∧ H l = some (.lst xs) ∧ -(2 ^ 63) ≤ i ∧ i < 2 ^ 63 ∧ seqIndex? i xs.length = some k ∧ xs[k]? = some y ∧ Q y (upd H l (.lst (xs.eraseIdx k)))
theorem mt_popAt : MtM X "list.pop" rPopAt := by
  intro pins s σ H x vs v us Q I rx rv h
  obtain ⟨l, xs, i, k, y, rfl, rfl, hH, h1, h2, hk, hy, q⟩ := h
  cases rx
  obtain ⟨u, rfl, ru⟩ := rv.one
  obtain ⟨t, rfl⟩ := ru
  obtain ⟨z, its, n, r, hl, e⟩ := I.lstM hH
  obtain ⟨w, hw, rw'⟩ := r.get hy
  refine call_meets F.slot_list_pop ⟨_, e, rfl⟩ F.entry_list_pop (F.args_list_pop_2 _ _)
    (MeetsSeq.list_pop_at l its.toArray n i t k w (fitsIndex_both h1 h2) (by rw [List.size_toArray, ← hl]; exact hk) (by rw [← Array.getElem?_toList]; exact hw) (by rw [List.size_toArray]; omega)) ⟨e, ?_⟩
  refine ⟨y, _, I.lset (its' := its.eraseIdx k) hH e ?_ (r.eraseIdx k) ?_, rw', q⟩
  · show its.toArray.eraseIdxIfInBounds k = (its.eraseIdx k).toArray
    rw [List.eraseIdxIfInBounds_toArray]
  · have := len_erase xs k
    omega

def rReverse : V → List V → Hp → VK → Prop := fun x vs H Q => ∃ l xs, x = .ref l ∧ vs = [] ∧ H l = some (.lst xs) ∧ Q .non (upd H l (.lst xs.reverse))
theorem mt_reverse : MtM X "list.reverse" rReverse := by
  intro pins s σ H x vs v us Q I rx rv h
  obtain ⟨l, xs, rfl, rfl, hH, q⟩ := h
  cases rx
  have hus := rv.zero
  subst hus
  obtain ⟨z, its, n, r, hl, e⟩ := I.lstM hH
  refine call_meets F.slot_list_reverse ⟨_, e, rfl⟩ F.entry_list_reverse (F.args_list_reverse_1 _) (AutoSeq1.list_reverse_list_0 l its.toArray n (by rw [List.size_toArray]; omega)) ⟨e, ?_⟩
  refine ⟨.non, _, I.lset (its' := its.reverse) hH e (by simp) r.reverse ?_, rfl, q⟩
  rw [List.length_reverse]
  omega

def rClear : V → List V → Hp → VK → Prop := fun x vs H Q => ∃ l xs, x = .ref l ∧ vs = [] ∧ H l = some (.lst xs) ∧ Q .non (upd H l (.lst []))
theorem mt_clear : MtM X "list.clear" rClear := by
  intro pins s σ H x vs v us Q I rx rv h
  obtain ⟨l, xs, rfl, rfl, hH, q⟩ := h
  cases rx
  have hus := rv.zero
  subst hus
  obtain ⟨z, its, n, r, hl, e⟩ := I.lstM hH
  refine call_meets F.slot_list_clear ⟨_, e, rfl⟩ F.entry_list_clear (F.args_list_clear_1 _) (AutoSeq1.list_clear_list_0 l its.toArray n (by rw [List.size_toArray]; omega)) ⟨e, ?_⟩
  exact ⟨.non, _, I.lset (its' := []) (ys := []) hH e rfl .nil (Nat.zero_le _), rfl, q⟩

/-! ### list + list, list += list, list * int -/
inductive I_rCat (x y : V) (H : Hp) (Q : VK) : Prop where
  | mk (l b : Addr) (xs zs : List V) (h0_ : x = .ref l) (h1_ : y = .ref b) (h2_ : H l = some (.lst xs)) (h3_ : H b = some (.lst zs)) (h4_ : xs.length + zs.length ≤ sizeLine) (h5_ : ∀ p, H p = none → Q (.ref p) (upd H p (.lst (xs ++ zs)))) : I_rCat  x y H Q
def rCat : R2 := fun x y H Q => I_rCat  x y H Q
theorem op_cat : OpR X (binaryOp .Add) rCat := by
  intro pins s σ H x y v u Q I rx ry h
  obtain ⟨l, b, xs, zs, rfl, rfl, hH, hB, hz, q⟩ := h
  cases rx
  cases ry
  obtain ⟨z, its, n, r, hl, e⟩ := I.lstM hH
  obtain ⟨z2, its2, n2, r2, hl2, e2⟩ := I.lstM hB
  refine PySem.P.add_list e e2 ?_ (by rw [List.size_toArray, List.size_toArray]; omega)
  have ea : its.toArray ++ its2.toArray = (its ++ its2).toArray := by simp
  rw [ea]
  exact ⟨.ref _, _, I.lnew (t' := s.toks) (r.append r2) (by rw [List.length_append]; omega), rfl, q _ I.fresh⟩
/-- a list times an int (a negative one is nothing) -/
def rRep : R2 := fun x y H Q => ∃ l k xs, x = .ref l ∧ y = .int k ∧ H l = some (.lst xs) ∧ -(2 ^ 63) ≤ k ∧ k < 2 ^ 63 ∧ xs.length * k.toNat ≤ sizeLine ∧
  ∀ p, H p = none → Q (.ref p) (upd H p (.lst (List.replicate k.toNat xs).flatten))
theorem len_rep {α : Type} (xs : List α) (k : Nat) : (List.replicate k xs).flatten.length = k * xs.length := by
  induction k with
  | zero => simp
  | succ k ih => rw [List.replicate_succ, List.flatten_cons, List.length_append, ih, Nat.succ_mul, Nat.add_comm]
theorem op_rep : OpR X (binaryOp .Mult) rRep := by
  intro pins s σ H x y v u Q I rx ry h
  obtain ⟨l, k, xs, rfl, rfl, hH, h1, h2, hz, q⟩ := h
  cases rx
  obtain ⟨t, rfl⟩ := ry
  obtain ⟨z, its, n, r, hl, e⟩ := I.lstM hH
  have hlen : its.toArray.size * k.toNat ≤ sizeLine := by rw [List.size_toArray, ← hl]; exact hz
  have hcap : ¬ its.toArray.size * k.toNat > (2 ^ 63 - 1) / 8 := by
    have : (sizeLine : Nat) ≤ (2 ^ 63 - 1) / 8 := by decide
    omega
  have hfit : ¬ (!Builtin.List.listFitsIndex k) = true := by
    rw [fitsIndex_both h1 h2]
    exact Bool.false_ne_true
  have hlong : ¬ Builtin.List.listTooLong (its.toArray.size * k.toNat) = true := by
    rw [notLongL hlen]
    exact Bool.false_ne_true
  have hnew : List.foldl (fun x1 x2 => x1 ++ x2) #[] (List.replicate (if its.toArray.isEmpty = true then 0 else k.toNat) its.toArray) = (List.replicate k.toNat its).flatten.toArray := by
    have f0 : ∀ m : Nat, List.foldl (fun x1 x2 => x1 ++ x2) #[] (List.replicate m its.toArray) = (List.replicate m its).flatten.toArray := fun m => by
      have := foldl_rep its m []
      rw [List.nil_append] at this
      exact this
    rw [f0]
    cases its with
    | nil => simp
    | cons a r' => rw [if_neg (by simp)]
  refine wpAny_binaryOp_repeat_ref (T := "list") (U := "int") (by decide) ⟨_, e, rfl⟩ (fun s' => typeIs_int s' k t) noFill_list_mul F.fills_int_mul F.slot_int_rmul repeat_list F.slot_int_index.lookup
    (call_meets F.slot_int_rmul (typeIs_int s k t) F.entry_int_rmul (F.args_int_rmul_2 _ _) (int___rmul___int_list k t l its.toArray n)
      ⟨e, rfl, ⟨_, e, rfl⟩, call_meets F.slot_list_mul ⟨_, e, rfl⟩ F.entry_list_mul (F.args_list_mul_2 _ _) (AutoListH.list___mul___list_int_3 l its.toArray n k t hfit hcap hlong) ⟨e, ?_⟩⟩)
  rw [hnew]
  exact ⟨.ref _, _, I.lnew (t' := s.toks) (r.rep k.toNat) (by rw [len_rep, Nat.mul_comm]; exact hz), rfl, q _ I.fresh⟩

/-! ### del xs[i] -/
theorem del_list {pins : List (Addr × Obj)} {s : Shared} {σ : St} {H : Hp} {l : Addr} {xs : List V} {i : Int} {t : Tok} {k : Nat} {Q : Unit → Shared → Prop} (I : Inv X pins σ H s) (hH : H l = some (.lst xs))
    (h1 : -(2 ^ 63) ≤ i) (h2 : i < 2 ^ 63) (hk : seqIndex? i xs.length = some k) (h : ∀ s', Inv X pins σ (upd H l (.lst (xs.eraseIdx k))) s' → Q () s') :
    wpAny (model X.prog X.w) X.A (delItem (.ref l) (.int i t)) Q X.xe s := by
  obtain ⟨z, its, n, r, hl, e⟩ := I.lstM hH
  refine PySem.P.delItem_list (k := k) e (fitsIndex_both h1 h2) (by rw [List.size_toArray, ← hl]; exact hk) (h _ ?_) (by rw [List.size_toArray]; omega)
  refine I.lset (its' := its.eraseIdx k) (t' := s.toks) hH e ?_ (r.eraseIdx k) ?_
  · show its.toArray.eraseIdxIfInBounds k = (its.eraseIdx k).toArray
    rw [List.eraseIdxIfInBounds_toArray]
  · have := len_erase xs k
    omega
end

/-! ### xs[a:b] = ys -/
section
variable {prog : Program} {w : World} {A : Around} {E : Value → Shared → Prop} {s : Shared}
theorem splice_eq (its its2 : List Value) (a c : Nat) : its.toArray.extract 0 a ++ its2.toArray ++ its.toArray.extract c its.toArray.size = (its.take a ++ its2 ++ its.drop c).toArray := by
  apply Array.toList_inj.mp
  first
    | (simp
       exact List.take_of_length_le (by simp))
    | simp [List.take_of_length_le]
    | simp
theorem bounds_run {a c n : Nat} (hac : a ≤ c) (hc : c ≤ n) : sliceBounds (some (a : Int)) (some (c : Int)) none n = ((a : Int), (c : Int), 1) := by
  simp only [sliceBounds, Option.getD_none]
  have h1 : ¬ ((a : Int) < 0) := by omega
  have h2 : ¬ ((c : Int) < 0) := by omega
  simp only [h1, h2, if_false, show (1 : Int) > 0 by decide, if_true]
  congr 1
  · omega
  · congr 1; omega
set_option maxRecDepth 100000 in
/-- list.__setitem__ with a slice of step one and another list -/
theorem setItem_slice {l b sl : Addr} {items new : Array Value} {n n2 : Nat} {vl vu : Value} {a c : Nat} {Q : Unit → Shared → Prop}
    (e : s.heap.get? l = some { cls := .type "list", data := .seq items n }) (e2 : s.heap.get? b = some { cls := .type "list", data := .seq new n2 }) (hne : l ≠ b)
    (hs : s.heap.IsSliceOf sl vl vu .none) (pl : IsPart vl (some (a : Int))) (pu : IsPart vu (some (c : Int))) (hac : a ≤ c) (hc : c ≤ items.size)
    (hsz : items.size + new.size ≤ sizeLine) (h : Q () { s with heap := s.heap.update l (Obj.mapSeq fun xs => xs.extract 0 a ++ new ++ xs.extract c xs.size) }) :
    wpAny (model prog w) A (setItem (.ref l) (.ref sl) (.ref b)) Q E s := by
  have hl : s.heap.IsList l items := PySem.IsL.isList e
  have hb : s.heap.IsList b new := PySem.IsL.isList e2
  obtain ⟨os, hos, hcs, hds⟩ := id hs
  have hTs : s.TypeIs (.ref sl) "slice" := ⟨os, hos, hcs⟩
  have hstep : ¬ ((rawPart none == rawInt 0) = true) := Bool.false_ne_true
  have hsame : Builtin.List.listSameRef (.ref l) (.ref b) = false := by
    unfold Builtin.List.listSameRef
    exact beq_eq_false_iff_ne.mpr hne
  have hmax : (max (a : Int) (c : Int)).toNat = c := by omega
  have hz' : ((fun xs : Array Value => xs.extract 0 a ++ new ++ xs.extract c xs.size) items).size ≤ sizeLine + 1 := by
    simp only [Array.size_append, Array.size_extract]
    omega
  unfold setItem
  try with_reducible refine wpAny_holding ?_
  first | refine wpAny_bind (wpAny_pure ?_) | skip
  refine wpAny_bind (wpAny_sequenceKey hl.typeIs (by decide) ?_)
  refine wpAny_bind (wpAny_callSpecial?_slot (name := Str.ofString "__setitem__") hl.typeIs slot_list_setitem
    (wpAny_call_entry slot_list_setitem hl.typeIs entry_list_setitem ?_ (args_list_setitem _ _ _)))
  show wpAny _ _ (Builtin.List.listSubscript? (.ref sl) >>= _) _ _ s
  refine wpAny_bind ?_
  unfold Builtin.List.listSubscript?
  refine wpAny_bind (wpAny_specialOf hTs slice_no_index ?_)
  simp only [Option.isNone_none, if_true]
  refine wpAny_pure ?_
  show wpAny _ _ (typeOf (.ref sl) >>= _) _ _ s
  refine wpAny_bind (wpAny_typeOf hTs ?_)
  first
    | rw [if_neg (by decide)]
    | refine PySem.W.KFB.if_not (by decide) ?_
  rw [listSliceParts_eq]
  refine wpAny_bind (wpAny_bind (wpAny_field hos hds (x := .none) rfl (wpAny_bind (wpAny_listPart .none ?_))))
  rw [if_neg hstep]
  refine wpAny_bind (wpAny_field hos hds (x := vl) rfl (wpAny_bind (wpAny_listPart pl ?_)))
  refine wpAny_bind (wpAny_field hos hds (x := vu) rfl (wpAny_bind (wpAny_listPart pu (wpAny_pure ?_))))
  first
    | simp only [hsame, Bool.false_eq_true, if_false]
    | refine PySem.W.KFB.if_not hsame ?_
    | (dsimp only
       rw [if_neg (by rw [hsame]; exact Bool.false_ne_true)])
  refine wpAny_bind (m := Builtin.List.listAllItems (.ref b) "must assign iterable to extended slice") ?_
  unfold Builtin.List.listAllItems
  refine wpAny_bind (wpAny_typeOf hb.typeIs ?_)
  first
    | refine PySem.W.KFB.if_so (by decide) ?_
    | rw [if_pos (by decide)]
    | simp only [beq_self_eq_true, Bool.true_or, if_true]
  unfold Builtin.List.listItems
  refine wpAny_bind (wpAny_seqItems e2 rfl (wpAny_pure ?_))
  refine wpAny_bind (wpAny_bind (wpAny_seqItems e rfl (wpAny_pure ?_)))
  refine wpAny_bind (wpAny_of_eq ((sliceIndices_raw (some (a : Int)) (some (c : Int)) none items.size (by simp)).trans (congrArg (pure : Int × Int × Int → Sem (Int × Int × Int)) (bounds_run hac hc))) ?_)
  show wpAny _ _ (if ((1 : Int) == 1) = true then _ else _) _ _ s
  rw [if_pos (by decide)]
  refine wpAny_bind (wpAny_rule ?_)
  first
    | simp only [notLongL hsz, Bool.false_eq_true, if_false]
    | refine PySem.W.KFB.if_not (notLongL hsz) ?_
  first | refine wpAny_bind (wpAny_pure ?_) | skip
  show wpAny _ _ (updateSeq l (fun xs => xs.extract 0 ((a : Int)).toNat ++ new ++ xs.extract (max (a : Int) (c : Int)).toNat xs.size) >>= _) _ _ s
  rw [hmax, Int.toNat_natCast]
  refine wpAny_bind (wpAny_updateSeq (hz := Nat.le_trans (Nat.le_add_right _ _) hsz) (_hz' := hz') e rfl ?_)
  refine wpAny_bind (wpAny_letGo ?_)
  first
    | exact wpAny_bind (wpAny_pure (wpAny_pure ⟨.none, rfl, wpAny_pure h⟩))
    | exact wpAny_pure ⟨.none, rfl, wpAny_pure h⟩
end

section
variable {X : Cx}
/-- xs[a:c] = ys of another list, at the value level: sl is the slice object that was just made -/
theorem set_slice {pins : List (Addr × Obj)} {s : Shared} {σ : St} {H : Hp} {l b sl : Addr} {xs ys : List V} {a c : Int} {vl vu : Value} {Q : Unit → Shared → Prop} (I : Inv X pins σ H s)
    (hH : H l = some (.lst xs)) (hB : H b = some (.lst ys)) (hne : l ≠ b) (hs : s.heap.IsSliceOf sl vl vu .none) (ra : RelV (.int a) vl) (rc : RelV (.int c) vu) (h0 : 0 ≤ a) (hac : a ≤ c) (hc : c ≤ xs.length)
    (hz : xs.length + ys.length ≤ sizeLine) (h : ∀ s', Inv X pins σ (upd H l (.lst (xs.take a.toNat ++ ys ++ xs.drop c.toNat))) s' → Q () s') :
    wpAny (model X.prog X.w) X.A (setItem (.ref l) (.ref sl) (.ref b)) Q X.xe s := by
  obtain ⟨ta, rfl⟩ := ra
  obtain ⟨tc, rfl⟩ := rc
  obtain ⟨z, its, n, r, hl, e⟩ := I.lstM hH
  obtain ⟨z2, its2, n2, r2, hl2, e2⟩ := I.lstM hB
  obtain ⟨a', rfl⟩ := Int.eq_ofNat_of_zero_le h0
  obtain ⟨c', rfl⟩ := Int.eq_ofNat_of_zero_le (Int.le_trans h0 hac)
  simp only [Int.toNat_natCast] at h
  refine setItem_slice (a := a') (c := c') e e2 hne hs (.int _ _) (.int _ _) (by omega) (by rw [List.size_toArray]; omega) (by rw [List.size_toArray, List.size_toArray]; omega) (h _ ?_)
  refine I.lset (its' := its.take a' ++ its2 ++ its.drop c') (t' := s.toks) hH e ?_ (Vals.append (Vals.append (r.take _) r2) (r.drop _)) ?_
  · exact splice_eq its its2 a' c'
  · rw [List.length_append, List.length_append, List.length_take, List.length_drop]
    omega
end
end L2

namespace Att
open PySem PySem.W PySem.Calls PyProof.Rows

/-! ### the script -/
theorem ints_of_wellAll {P : Params} {h : Heap} : ∀ (ns : List Int) (vs : List Value), WellAll P h vs (ns.map WData.int) → IntsAre vs ns := by
  intro ns
  induction ns with
  | nil =>
    intro vs w
    rw [List.map_nil] at w
    cases w
    exact .nil
  | cons n ns ih =>
    intro vs w
    rw [List.map_cons] at w
    cases w with
    | cons a b =>
      cases a
      exact .cons _ _ (ih _ b)

theorem script_of {l : OpenLaw} {n : Nat} (hn : l.most = some n) {P : Params} {h : Heap} {args : List WData} {vals : List Value}
    (hpre : l.row.toRowW.claim.pre args = true) (hwl : WellAll P h vals args) :
    ∃ a vs ns, vals = [Value.ref a] ∧ args = [WData.list (ns.map WData.int)] ∧ h.get? a = some { cls := .type "list", data := .seq vs.toArray } ∧ IntsAre vs ns ∧ ns.length ≤ n := by
  have hsh : WShape.hasAll [] args [.list .int] = true := (pre_splitW hpre).1
  have hc : l.pre.holds [] { args := args } = true := (pre_splitW hpre).2
  obtain ⟨d, r, rfl, h1, h2⟩ := hasAllW_cons hsh
  obtain rfl := hasAllW_nil h2
  obtain ⟨xs, rfl, h3⟩ := hasW_list h1
  obtain ⟨ns, rfl⟩ := items_int h3
  have hlen : ns.length ≤ n := by
    unfold OpenLaw.pre at hc
    have h4 : (WTm.not (.lt (.lit (.int (n : Int))) (.len (.arg 0)))).holds [] { args := [.list (ns.map .int)] } = true := by
      have h4 := (holds_andW hc).1
      rw [hn] at h4
      exact h4
    have h5 := condW_of h4 (w_not (w_lt w_lit (w_len_list (w_arg rfl))))
    rw [List.length_map] at h5
    refine Nat.le_of_not_lt fun q => ?_
    have q' : (n : Int) < ((ns.length : Nat) : Int) := by omega
    first
      | (rw [decide_eq_true q'] at h5; exact absurd h5 (by decide))
      | (simp at h5; omega)
  cases hwl with
  | cons w1 w2 =>
    cases w2
    cases w1 with
    | list ho hall => exact ⟨_, _, ns, rfl, rfl, ho, ints_of_wellAll ns _ hall, hlen⟩

theorem post_true (l : OpenLaw) (args : List WData) : l.row.toRowW.claim.post args (.bool true) args = true :=
  postW_of (r := l.row.toRowW) (X := (true == true))
    (show WShape.has [] (.bool true) .bool = true by first | rfl | decide | simp [WShape.has, WShape.arms, WShape.armsAll])
    (show (WTm.eq .res (.lit (.bool true))).value [] { args := args, res := some (.bool true), after := args } = some (.bool (true == true)) from w_eq_bool (w_res rfl) w_lit) rfl

/-! ### the attachment: holds_open's last premise (the goal 'hc' behind k_head) from a wpAny of the law's body -/
theorem attach {l : OpenLaw} {n : Nat} {q : Program} {loose : List Str} {XP : (Str → Option Value) → Heap → Prop} {YP : World → Heap → Prop} {d : DefRec} {x : Str}
    (hn : l.most = some n) (hdf : d.params.defaults = [])
    (hbind : ∀ pm cd doc v : Value, bindArgs (docDef d.name d.params d.body d.scope pm cd doc) ⟨[v], []⟩ = pure [(x, v)])
    (hx : d.scope.names.lookup x = some .local ∨ d.scope.names.lookup x = some .cell)
    (hk : d.scope.kind = .function) (hco : d.scope.isCoroutine = false) (hgen : d.scope.isGenerator = false)
    (body : ∀ (w : World) (s₀ s₁ s : Shared) (mg mb : Str → Option Value) (fa : Addr) (o : Obj) (pm cd doc : Value) (a : Addr) (vs : List Value) (ns : List Int),
      Ground q loose [] XP w s₀ mg mb s₁.heap → YP w s₁.heap →
      s₁.heap.get? fa = some o → o.data = .func (docDef d.name d.params d.body d.scope pm cd doc) → s₁.heap.CodeRec cd d.name → mg d.name = some (.ref fa) →
      s₁.heap.get? a = some { cls := .type "list", data := .seq vs.toArray } → IntsAre vs ns → ns.length ≤ n →
      s.gens = #[] → s.os = s₁.os →
      Fr s₁.heap s₁.heap.objs.size s.heap (bindL (envOfC d.name d.scope s₁.heap.objs.size fa cd).kindOf [(x, .ref a)] fun _ => none) →
      Cl s₁.heap.objs.size (cellsFrom (s₁.heap.objs.size + 1) d.scope.names []) s.heap (bindC (envOfC d.name d.scope s₁.heap.objs.size fa cd).kindOf [(x, .ref a)] fun _ => none) →
      wpAny (model l.prog w) (callerA.deeper (envOfC d.name d.scope s₁.heap.objs.size fa cd)) (execs d.body (envOfC d.name d.scope s₁.heap.objs.size fa cd))
        (fun f s' => f = .ret (.bool true) ∧ OldK s₁.heap s'.heap ∧ s'.os = s₁.os ∧ AllBare s'.gens) (fun _ _ => False) s) :
    WalkO q loose XP YP l.row.toRowW d [] (fun f vs => PySem.call f vs) := by
  intro w s₀ s₁ mg mb G Y fa o pm cd doc dV kV ho hd hcd hD hmg hg args vals as hpre hlay hrd hwl hlo
  obtain rfl : dV = .none := Dflts.none hD hdf
  obtain rfl : kV = .none := Dflts.noKw hD
  obtain ⟨a, vs, ns, rfl, rfl, hobj, hints, hlen⟩ := script_of hn hpre hwl
  refine enter_call ?_
  refine call_cells_ret (o := o) (by rw [depth_caller]; decide) ho (fd_plain hd) G.T.nolimit hcd (hbind pm cd doc (.ref a)) (fun y hy => ?_) (fun h₁ tk F X => ?_) hco hgen hk
  · obtain rfl : y = (x, Value.ref a) := List.mem_singleton.mp hy
    rcases hx with e | e
    · exact .inl e
    · exact .inr ⟨e, cellsFrom_some _ _ _ (.inl e)⟩
  · refine wpAny_mono (body w s₀ s₁ { s₁ with heap := h₁, toks := tk } mg mb fa o pm cd doc a vs ns G Y ho (fd_plain hd) hcd hmg hobj hints hlen hg rfl F X) (fun f s' hq => ?_) (fun _ _ hq => hq)
    obtain ⟨rfl, h2, h3, h4⟩ := hq
    exact ⟨.inl ⟨.bool true, .bool true, [], rfl, fun _ => rfl, .bool true, post_true l _, fun _ => ⟨List.Pairwise.nil, fun _ hm => (nomatch hm)⟩⟩, h2, h3, h4⟩

/-- the same from a codeAny of the CALL (for a layer whose function contracts speak of calls) -/
theorem attach_call {l : OpenLaw} {n : Nat} {q : Program} {loose : List Str} {XP : (Str → Option Value) → Heap → Prop} {YP : World → Heap → Prop} {d : DefRec}
    (hn : l.most = some n) (hdf : d.params.defaults = [])
    (call : ∀ (w : World) (s₀ s₁ : Shared) (mg mb : Str → Option Value) (fa : Addr) (o : Obj) (pm cd doc : Value) (a : Addr) (vs : List Value) (ns : List Int),
      Ground q loose [] XP w s₀ mg mb s₁.heap → YP w s₁.heap →
      s₁.heap.get? fa = some o → o.data = .func (docDef d.name d.params d.body d.scope pm cd doc) → s₁.heap.CodeRec cd d.name → mg d.name = some (.ref fa) →
      s₁.heap.get? a = some { cls := .type "list", data := .seq vs.toArray } → IntsAre vs ns → ns.length ≤ n → s₁.gens = #[] →
      codeAny (model l.prog w) callerA (.call (.ref fa) ⟨[.ref a], []⟩) (fun r s' => r = .ok (.ret (.bool true)) ∧ OldK s₁.heap s'.heap ∧ s'.os = s₁.os ∧ AllBare s'.gens) s₁) :
    WalkO q loose XP YP l.row.toRowW d [] (fun f vs => PySem.call f vs) := by
  intro w s₀ s₁ mg mb G Y fa o pm cd doc dV kV ho hd hcd hD hmg hg args vals as hpre hlay hrd hwl hlo
  obtain rfl : dV = .none := Dflts.none hD hdf
  obtain rfl : kV = .none := Dflts.noKw hD
  obtain ⟨a, vs, ns, rfl, rfl, hobj, hints, hlen⟩ := script_of hn hpre hwl
  refine enter_call (codeAny_mono (call w s₀ s₁ mg mb fa o pm cd doc a vs ns G Y ho (fd_plain hd) hcd hmg hobj hints hlen hg) fun r s' hq => ?_)
  obtain ⟨rfl, h2, h3, h4⟩ := hq
  exact ⟨.inl ⟨.bool true, .bool true, [], rfl, fun _ => rfl, .bool true, post_true l _, fun _ => ⟨List.Pairwise.nil, fun _ hm => (nomatch hm)⟩⟩, h2, h3, h4⟩

/-- the same where the top left finished generators (o_head chose holds_openN): nothing may have changed at all and no generator may be left -/
theorem attachN {l : OpenLaw} {n : Nat} {q : Program} {loose : List Str} {XP : (Str → Option Value) → Heap → Prop} {YP : World → Heap → Prop} {d : DefRec} {x : Str}
    (hn : l.most = some n) (hdf : d.params.defaults = [])
    (hbind : ∀ pm cd doc v : Value, bindArgs (docDef d.name d.params d.body d.scope pm cd doc) ⟨[v], []⟩ = pure [(x, v)])
    (hx : d.scope.names.lookup x = some .local ∨ d.scope.names.lookup x = some .cell)
    (hk : d.scope.kind = .function) (hco : d.scope.isCoroutine = false) (hgen : d.scope.isGenerator = false)
    (body : ∀ (w : World) (s₀ s₁ s : Shared) (mg mb : Str → Option Value) (fa : Addr) (o : Obj) (pm cd doc : Value) (a : Addr) (vs : List Value) (ns : List Int),
      Ground q loose [] XP w s₀ mg mb s₁.heap → YP w s₁.heap →
      s₁.heap.get? fa = some o → o.data = .func (docDef d.name d.params d.body d.scope pm cd doc) → s₁.heap.CodeRec cd d.name → mg d.name = some (.ref fa) →
      s₁.heap.get? a = some { cls := .type "list", data := .seq vs.toArray } → IntsAre vs ns → ns.length ≤ n →
      s.gens = #[] → s.os = s₁.os →
      Fr s₁.heap s₁.heap.objs.size s.heap (bindL (envOfC d.name d.scope s₁.heap.objs.size fa cd).kindOf [(x, .ref a)] fun _ => none) →
      Cl s₁.heap.objs.size (cellsFrom (s₁.heap.objs.size + 1) d.scope.names []) s.heap (bindC (envOfC d.name d.scope s₁.heap.objs.size fa cd).kindOf [(x, .ref a)] fun _ => none) →
      wpAny (model l.prog w) (callerA.deeper (envOfC d.name d.scope s₁.heap.objs.size fa cd)) (execs d.body (envOfC d.name d.scope s₁.heap.objs.size fa cd))
        (fun f s' => f = .ret (.bool true) ∧ (∀ b o, s₁.heap.get? b = some o → s'.heap.get? b = some o) ∧ s'.os = s₁.os ∧ s'.gens = #[]) (fun _ _ => False) s) :
    WalkN q loose XP YP l.row.toRowW d [] (fun f vs => PySem.call f vs) := by
  intro w s₀ s₁ mg mb G Y fa o pm cd doc dV kV ho hd hcd hD hmg hg args vals as hpre hlay hrd hwl hlo
  obtain rfl : dV = .none := Dflts.none hD hdf
  obtain rfl : kV = .none := Dflts.noKw hD
  obtain ⟨a, vs, ns, rfl, rfl, hobj, hints, hlen⟩ := script_of hn hpre hwl
  refine enter_callW ?_
  refine call_cells_ret (o := o) (by rw [depth_caller]; decide) ho (fd_plain hd) G.T.nolimit hcd (hbind pm cd doc (.ref a)) (fun y hy => ?_) (fun h₁ tk F X => ?_) hco hgen hk
  · obtain rfl : y = (x, Value.ref a) := List.mem_singleton.mp hy
    rcases hx with e | e
    · exact .inl e
    · exact .inr ⟨e, cellsFrom_some _ _ _ (.inl e)⟩
  · refine wpAny_mono (body w s₀ s₁ { s₁ with heap := h₁, toks := tk } mg mb fa o pm cd doc a vs ns G Y ho (fd_plain hd) hcd hmg hobj hints hlen hg rfl F X) (fun f s' hq => ?_) (fun _ _ hq => hq)
    obtain ⟨rfl, h2, h3, h4⟩ := hq
    exact ⟨.inl ⟨.bool true, .bool true, [], rfl, fun _ => rfl, .bool true, post_true l _, fun _ => ⟨List.Pairwise.nil, fun _ hm => (nomatch hm)⟩⟩, h2, h3, h4⟩

/-! ### rules over ANY heap (no ledger) from facts about the written part K: the library's own take a ledger (News) for what they write -/
section
variable {prog : Program} {w : World} {A : Around} {E : Value → Shared → Prop} {s : Shared} {K : Frag}

/-- a def of the module, or a method (qual 'C.m'), entered: the frame is the next address; cells behind it -/
theorem call_fn {R : Result → Shared → Prop} {name qual : Str} {params : Arguments} {body : List Stmt} {scope : Scope} {dV kV doc pm cdv ct oc : Value} {an od : Option Addr} {osl : Array (Option Value)} {f : Addr} {args : Args} {binds : List (Str × Value)}
    (X : K.In s.heap) (hlim : s.heap.NoLimit) (ho : K.lookup f = some ⟨oc, od, .func (fnOf name qual params body scope dV kV doc pm an cdv ct), osl⟩) (hcd : codeIn K cdv qual = true) (hroom : A.depth < recursionLimit)
    (hbind : BindsTo s (fnOf name qual params body scope dV kV doc pm an cdv ct) args binds)
    (hkind : (binds.all fun y => scope.names.lookup y.1 == some .local || scope.names.lookup y.1 == some .cell) = true)
    (h : ∀ s₁, InCallC s s.heap.objs.size (bindL (envOfC qual scope s.heap.objs.size f cdv).kindOf binds fun _ => none) (cellsFrom (s.heap.objs.size + 1) scope.names [])
        (bindC (envOfC qual scope s.heap.objs.size f cdv).kindOf binds fun _ => none) s₁ →
      wpAny (model prog w) (A.deeper (envOfC qual scope s.heap.objs.size f cdv)) (execs body (envOfC qual scope s.heap.objs.size f cdv))
        (fun fl s' => R (.ok (.ret (match fl with | .ret v => v | _ => .none))) s')
        (fun e s' => wpAny (model prog w) (A.deeper (envOfC qual scope s.heap.objs.size f cdv)) (leaving (envOfC qual scope s.heap.objs.size f cdv) e) (fun _ s'' => R (.error e) s'') (fun e' s'' => R (.error e') s'') s') s₁)
    (hco : scope.isCoroutine = false) (hgen : scope.isGenerator = false) (hk : scope.kind = .function) : codeAny (model prog w) A (.call (.ref f) args) R s := by
  refine codeAny_call_function hroom (X _ _ ho) rfl hco hgen rfl (codeRec_of X hcd) (hbind _ _ _ _ ?_)
  refine wpAny_newFunctionEnv_cells hk (kindsX hkind _) fun env he s₁ x => ?_
  subst he
  exact ⟨hlim.keeps x.toInCall.keep, codeAny_func (h s₁ x)⟩

/-- C(..): dict at size, instance at size + 1, then __init__ -/
theorem make_obj {R : Result → Shared → Prop} {C fI : Addr} {rest : List Value} {kw : List (Str × Value)}
    (X : K.In s.heap) (hm : makesIn K C = true) (hi : findIn K (.ref C) "__init__" = some (some (.ref fI))) (hf : isFn K (.ref fI) = true)
    (h : codeAny (model prog w) (A.under (.builtin "type.__call__" ⟨.ref C :: rest, kw⟩)) (.call (.ref fI) ⟨.ref (s.heap.objs.size + 1) :: rest, kw⟩) (InitBack (s.heap.objs.size + 1) R)
      { s with heap := (s.heap.push emptyDict).push (instObj C s.heap.objs.size) }) : codeAny (model prog w) A (.call (.ref C) ⟨rest, kw⟩) R s := by
  obtain ⟨hh, g, d, t, os⟩ := s
  exact make_core (makes_of X hm) (looks_findIn X hi) (fun self => bind_fn X self (beq_iff_eq.mp hf)) (.inl rfl) h

/-- x.name where the instance's dict holds the name and the class does not -/
theorem get_field {x C : Addr} {ox : Obj} {es : List DictEntry} {n : Nat} {name : Str} {expr : Bool} {v : Value} {Q : Value → Shared → Prop}
    (X : K.In s.heap) (I : PySem.W.InstAt s.heap x ox C (some (dictOf es n))) (hg : plainGet K C name = true) (hh : hasDictIn K C = true) (ha : findIn K (.ref C) name = some none)
    (hl : getL name es = some (some v)) (hv : handedIn v = true) (h : Q v { s with toks := s.toks + 1 }) : wpAny (model prog w) A (getAttr (.ref x) name expr) Q E s :=
  get_value X I (plainGet_of hg).1 (findObj_own hh ha rfl hl) hv h

/-- x.m(..): the method found in the class -/
theorem get_method {x C f : Addr} {ox : Obj} {es : List DictEntry} {n : Nat} {name : Str} {pl : Sem Bool} {Q : Value × List Value → Shared → Prop}
    (X : K.In s.heap) (I : PySem.W.InstAt s.heap x ox C (some (dictOf es n))) (hg : plainGet K C name = true) (hf : findIn K (.ref C) name = some (some (.ref f))) (ht : isFn K (.ref f) = true)
    (hl : getL name es = some none) (h : Q (.ref f, [.ref x]) s) : wpAny (model prog w) A (getMethod (.ref x) name pl) Q E s :=
  method_fn X I (plainGet_of hg).1 (plainGet_of hg).2 hf (beq_iff_eq.mp ht) (by show (lookIn name (dictOf es n)).map _ = _; rw [lookIn_dict, hl]; rfl) h

/-! the whole heap as the ledger: makes every rule that writes through a ledger a rule over any heap -/
def noObjs (h : Heap) : Heap := { h with objs := #[] }
theorem noObjs_get (h : Heap) (b : Addr) : (noObjs h).get? b = none := by
  cases e : (noObjs h).get? b with
  | none => rfl
  | some o => exact absurd (Heap.lt_size e) (Nat.not_lt_zero _)
def ledger (h : Heap) (L d : Addr) : List (Addr × Obj) := (List.range h.objs.size).filterMap fun a => if a = L ∨ a = d then none else (h.get? a).map fun o => (a, o)
theorem mem_ledger {h : Heap} {L d a : Addr} {o : Obj} : (a, o) ∈ ledger h L d ↔ a ≠ L ∧ a ≠ d ∧ h.get? a = some o := by
  unfold ledger
  rw [List.mem_filterMap]
  constructor
  · rintro ⟨b, _, e⟩
    split at e
    · cases e
    · rename_i hb
      obtain ⟨o', ho, e'⟩ := Option.map_eq_some_iff.mp e
      cases e'
      exact ⟨fun q => hb (.inl q), fun q => hb (.inr q), ho⟩
  · rintro ⟨n1, n2, ho⟩
    refine ⟨a, List.mem_range.mpr (Heap.lt_size ho), ?_⟩
    rw [if_neg (show ¬ (a = L ∨ a = d) from fun q => q.elim n1 n2), ho] <;> rfl
theorem news_ledger {h : Heap} {L d : Addr} {od : Obj} (hne : d ≠ L) (ho : h.get? d = some od) : News (noObjs h) L h ([] ++ (d, od) :: ledger h L d) := by
  rintro ⟨a, o⟩ hp
  rcases List.mem_cons.mp hp with e | hp
  · cases e
    exact ⟨ho, hne, noObjs_get _ _⟩
  · obtain ⟨n1, n2, e⟩ := mem_ledger.mp hp
    exact ⟨e, n1, noObjs_get _ _⟩
theorem fr_all {h : Heap} {L : Addr} {m : Str → Option Value} (n : h.Ns L m) : Fr (noObjs h) L h m :=
  ⟨n, fun b o e => (by rw [noObjs_get] at e; cases e), Nat.zero_le _⟩
/-- Upd of the head entry (for append_K, setItem_K ..) -/
theorem upd_ledger {h : Heap} {L d : Addr} {o o' : Obj} : Upd d o o' ((d, o) :: ledger h L d) ((d, o') :: ledger h L d) :=
  .head fun ⟨_, _⟩ hp => (mem_ledger.mp hp).2.1

/-- x.name = v over any heap: L is any namespace of the heap (the frame's, say): its map stays, its object is not told; all else but the dict stays -/
theorem set_field {x C dx L : Addr} {ox : Obj} {m : Str → Option Value} {es es' : List DictEntry} {n n' : Nat} {name : Str} {v : Value} {Q : Unit → Shared → Prop}
    (X : K.In s.heap) (I : PySem.W.InstAt s.heap x ox C (some (dictOf es n))) (hd : ox.dict = some dx) (hL : s.heap.Ns L m) (hne : dx ≠ L)
    (hs : findIn K (.ref C) "__setattr__" = some (some (.builtin "object.__setattr__"))) (hp : plainOver K C = true) (ht : takerIn K C name = some none) (hh : hasDictIn K C = true) (hl : (getL name es).isSome = true)
    (e : (putL name (PyData.keyHash w.params name) (.str name (s.toks + 1)) v es, putN name es n) = (es', n')) (hz : es'.length ≤ 1000)
    (h : ∀ h' : Heap, h'.Ns L m → h'.get? dx = some (dictOf es' n') → (∀ b o, b ≠ dx → b ≠ L → s.heap.get? b = some o → h'.get? b = some o) → Q () { s with heap := h', toks := s.toks + 2 }) :
    wpAny (model prog w) A (setAttr (.ref x) name v) Q E s := by
  obtain ⟨e1, e2⟩ := Prod.mk.inj e
  have hdx : s.heap.get? dx = some (dictOf es n) := by
    have := I.dict
    rw [hd] at this
    exact this
  refine set_plain X I hs (osa_dict (s := { s with toks := s.toks + 1 }) (h₀ := noObjs s.heap) (L := L) (m := m) (od := dictOf es n) (od' := dictOf es' n') (es := es') (n := n') (pre := []) (post := ledger s.heap L dx)
    (fr_all hL) (news_ledger hne hdx) X I hd hp ht hh hl (fun _ q => nomatch q) (fun ⟨_, _⟩ q => (mem_ledger.mp q).2.1) (by rw [putName_dict, e1, e2]) rfl hz fun h' F' N' => ?_)
  exact h h' F'.ns (N'.get (List.Mem.head _)) fun b o n1 n2 ho => N'.get (List.Mem.tail _ (mem_ledger.mpr ⟨n2, n1, ho⟩))
end
end Att

namespace L2
open PySem PySem.Spec PyProof.Rows

theorem vals_ints : ∀ {vs : List Value} {ns : List Int}, IntsAre vs ns → Vals (ns.map V.int) vs
  | _, _, .nil => .nil
  | _, _, .cons n t h => .cons ⟨t, rfl⟩ (vals_ints h)

/-- nothing is tracked but the script, known to the object (or it is an object of the module) -/
def Only (H : Hp) : Prop := ∀ b, H b = none ∨ ∃ o xs, H b = some (.frz o (.lst xs))

/-- THE HEAD: the law's promise, at the heap behind the top. F, the promise of the law's def, may use that base is part of the heap (so K.In base, base.Ns mainGlobals mg stand in Mod) -/
theorem law_call {P : Program} {w : World} {K : PySem.W.Frag} {mg mb : Str → Option Value} {CX : CXT} {k : Nat} {fa a : Addr} {fd : FuncData} {x : Str} {sp : Sp} {s₁ : Shared} {vs : List Value} {ns : List Int}
    (KX : K.In s₁.heap) (hns : s₁.heap.Ns mainGlobals mg) (hb : s₁.heap.Ns builtinsNs mb) (hbb : ∀ x : Str, x ≠ "__name__" → mb x = bootBuiltins x) (hlim : s₁.heap.NoLimit) (hSe : s₁.heap.NoSeer) (hg : s₁.gens = #[])
    (ha : s₁.heap.get? a = some { cls := .type "list", data := .seq vs.toArray }) (hi : IntsAre vs ns) (hl : ns.length ≤ sizeLine) (hr : Room k callerA)
    (F : ∀ base : Heap, K.In base → base.Ns mainGlobals mg → base.NoSeer → FnOk P w K mg base CX k fa fd [x] sp) (hbind : ∀ (s : Shared) (u : Value), BindsTo s fd ⟨[u], []⟩ [(x, u)])
    (hsp : ∀ H : Hp, Only H → SqL K H a (ns.map V.int) → sp [.ref a] H (fun v _ => v = .bl true) fun _ _ _ => False)
    (hCX : ∀ H e s', CX [] H s₁ (fun _ _ _ => False) e s' → False) :
    codeAny (model P w) callerA (.call (.ref fa) ⟨[.ref a], []⟩) (fun r s' => r = .ok (.ret (.bool true)) ∧ OldK s₁.heap s'.heap ∧ s'.os = s₁.os ∧ AllBare s'.gens) s₁ := by
  have rv := vals_ints hi
  have lenV := hi.length
  -- from an abstract heap in which nothing but the script may be tracked
  have core : ∀ H : Hp, Only H → SqL K H a (ns.map V.int) → HOk P w H s₁.heap → (∀ b, H b ≠ none → b = a) → (H a ≠ none → K.lookup a = none) →
      codeAny (model P w) callerA (.call (.ref fa) ⟨[.ref a], []⟩) (fun r s' => r = .ok (.ret (.bool true)) ∧ OldK s₁.heap s'.heap ∧ s'.os = s₁.os ∧ AllBare s'.gens) s₁ := by
    intro H hO hS hok hA hK
    have base_of : ∀ {b : Addr} {o : Obj}, s₁.heap.get? b = some o → H b = none → (hidT s₁.heap H).get? b = some o := fun e n => hidT_get e n
    have noA : ∀ {b : Addr} {o : Obj} {es : Array DictEntry} {ep : Nat}, s₁.heap.get? b = some o → o.data = .dict es ep → H b = none := fun {b o es ep} e d => by
      cases q : H b with
      | none => rfl
      | some u =>
        have e' : b = a := hA b (by rw [q]; simp)
        subst e'
        rw [ha] at e; cases e
        have d' : Data.seq vs.toArray _ = Data.dict es ep := d
        cases d'
    have nsK : ∀ {b : Addr} {m : Str → Option Value}, s₁.heap.Ns b m → (hidT s₁.heap H).Ns b m := fun {b m} ⟨o, es, ep, e, d, r⟩ => ⟨o, es, ep, base_of e (noA e d), d, r⟩
    have hKb : K.In (hidT s₁.heap H) := fun b o e => base_of (KX b o e) (by
      cases q : H b with
      | none => rfl
      | some u =>
        have e' : b = a := hA b (by rw [q]; simp)
        subst e'
        rw [hK (by rw [q]; simp)] at e; cases e)
    have hM : Mod K mg (hidT s₁.heap H) := ⟨hKb, nsK hns, ⟨mb, nsK hb, hbb⟩, let ⟨mc, h1, h2⟩ := hlim; ⟨mc, nsK h1, h2⟩⟩
    have e0 : Env0 P w K mg (hidT s₁.heap H) callerA [] s₁ H := ⟨rfl, hM, fun b o e => of_hidT e, Nat.le_of_eq (hidT_size _ _), trivial, fun b hb => absurd (show b ∈ ([] : List Addr) from hb) (by simp), hok, .of_eq hg⟩
    have hSb : (hidT s₁.heap H).NoSeer := ⟨(let ⟨mc, h1, h2⟩ := hSe.statics; ⟨mc, nsK h1, h2⟩), (let ⟨mc, h1, h2⟩ := hSe.mods; ⟨mc, nsK h1, h2⟩), (let ⟨mc, h1, h2⟩ := hSe.imp; ⟨mc, nsK h1, h2⟩), by
      obtain ⟨m', bm, ob, h1, h2, h3, h4, h5⟩ := hSe.main
      refine ⟨m', bm, ob, nsK h1, h2, base_of h3 ?_, h4, h5⟩
      cases q : H bm with
      | none => rfl
      | some u =>
        have e' : bm = a := hA bm (by rw [q]; simp)
        subst e'
        rw [ha] at h3; cases h3
        exact absurd h4 (by simp)⟩
    refine codeAny_mono ((F _ hKb (nsK hns) hSb).run callerA [] s₁ H ⟨[.ref a], []⟩ [.ref a] [.ref a] _ _ hr e0 (hbind s₁ (.ref a)) (.cons rfl .nil) (hsp H hO hS)) fun r s' h => ?_
    cases r with
    | error e => exact (hCX H e s' h).elim
    | ok fl =>
      cases fl with
      | next => exact False.elim h
      | brk => exact False.elim h
      | cont => exact False.elim h
      | ret u =>
        obtain ⟨v, H', os, bare, un, hok', r', q⟩ := h
        have q' : v = .bl true := q
        subst q'
        obtain rfl : u = Value.bool true := r'
        refine ⟨rfl, OldK.of_keep fun b o e => ?_, os, bare⟩
        cases q : H b with
        | none => exact un.keep b o e q (by intro z; exact absurd (show b ∈ ([] : List Addr) from z) (by simp)) (by simp)
        | some u =>
          rcases hO b with z | ⟨ob, xs, z⟩
          · rw [q] at z; cases z
          · have z2 := un.frzs b ob _ z
            obtain ⟨e1, _⟩ := hok b _ z
            obtain ⟨e2, _⟩ := hok' b _ z2
            rw [e] at e1; cases e1
            exact e2
  cases hk : K.lookup a with
  | some o =>
    -- the script is one of the module's own objects
    have e := KX a o hk
    rw [ha] at e
    cases e
    refine core (fun _ => none) (fun _ => .inl rfl) (.inr ⟨_, vs.toArray, _, hk, rfl, rfl, rfl, by rw [List.size_toArray, lenV]; exact hl, by simpa using rv⟩) (fun b u z => by have z' : (none : Option HO) = some u := z; cases z') (fun b z => absurd rfl z) fun z => absurd rfl z
  | none =>
    refine core (fun b => if b = a then some (.frz { cls := .type "list", data := .seq vs.toArray } (.lst (ns.map V.int))) else none) (fun b => ?_) (.inl (.inr ⟨{ cls := .type "list", data := .seq vs.toArray }, if_pos rfl⟩)) (fun b u z => ?_) (fun b z => ?_) fun _ => hk
    · by_cases hb : b = a
      · exact .inr ⟨_, _, if_pos hb⟩
      · exact .inl (if_neg hb)
    · by_cases hb : b = a
      · have z' := (if_pos hb).symm.trans z
        cases z'
        subst hb
        exact ⟨ha, by rw [List.length_map]; exact hl, vs, _, rv, ha⟩
      · have z' := (if_neg hb).symm.trans z
        cases z'
    · by_cases hb : b = a
      · exact hb
      · exact absurd (if_neg hb) z
end L2

namespace L2
open PySem PySem.Spec PyProof.Rows

abbrev KOf {K : PySem.W.Frag} {h : Heap} (_ : K.In h) : PySem.W.Frag := K

/-- the goal that k_head leaves (case hc), from the law's promise. F gives the function object fd (K's own) once, then the promise over every base -/
theorem walk_of {l : PySem.W.OpenLaw} {n k : Nat} {q : Program} {loose : List Str} {XP : (Str → Option Value) → Heap → Prop} {YP : World → Heap → Prop} {d : DefRec} {K : Params → PySem.W.Frag} {CX : World → CXT} {sp : World → Sp} {x : Str}
    (hn : l.most = some n) (hn2 : n ≤ sizeLine) (hdf : d.params.defaults = []) (hr : Room k callerA) (hi : PyProof.Rows.importsNone q = true)
    (hY : ∀ (w : World) (h : Heap), YP w h → (K w.params).In h)
    (F : ∀ (w : World) (mg : Str → Option Value) (fa : Addr) (h : Heap), (K w.params).In h → h.Ns mainGlobals mg → mg d.name = some (.ref fa) →
      ∃ fd : FuncData, (∀ (s : Shared) (u : Value), BindsTo s fd ⟨[u], []⟩ [(x, u)]) ∧
        ∀ base : Heap, (K w.params).In base → base.Ns mainGlobals mg → base.NoSeer → FnOk l.prog w (K w.params) mg base (CX w) k fa fd [x] (sp w))
    (hsp : ∀ (w : World) (H : Hp) (a : Addr) (ns : List Int), ns.length ≤ n → Only H → SqL (K w.params) H a (ns.map V.int) → sp w [.ref a] H (fun v _ => v = .bl true) fun _ _ _ => False)
    (hCX : ∀ (w : World) (H : Hp) (s : Shared) (e : Value) (s' : Shared), CX w [] H s (fun _ _ _ => False) e s' → False) :
    PySem.W.WalkO q loose XP YP l.row.toRowW d [] (fun f vs => PySem.call f vs) := by
  refine Att.attach_call hn hdf fun w s₀ s₁ mg mb fa o pm cd doc a vs ns G Y ho hd hcd hmg hobj hints hlen hg => ?_
  have KX := hY w _ Y
  obtain ⟨fd, hb, hF⟩ := F w mg fa _ KX G.T.g hmg
  exact law_call KX G.T.g G.T.b G.T.builtins G.T.nolimit (G.T.seer hi) hg hobj hints (Nat.le_trans hlen hn2) hr hF hb (fun H hO hS => hsp w H a ns hlen hO hS) fun H e s' => hCX w H s₁ e s'
end L2


/-! SHORT WORDS over the layer: a def of the text, its body, what a loop and a test want. -/
namespace L2
open PySem PySem.Spec PyProof.Rows

/-! ### the text by places -/
/-- the j-th statement of a class's body -/
def inClass (s : Stmt) (j : Nat) : Stmt := match s with
  | .ClassDef _ _ _ body _ _ _ _ _ _ _ => body.getD j (.Pass ⟨0, 0, 0, 0⟩)
  | _ => .Pass ⟨0, 0, 0, 0⟩
def defArgs (s : Stmt) : Arguments := match s with
  | .FunctionDef _ a _ _ _ _ _ _ _ _ => a
  | _ => { posonlyargs := [], args := [], vararg := none, kwonlyargs := [], kw_defaults := [], kwarg := none, defaults := [] }
def defBody (s : Stmt) : List Stmt := match s with
  | .FunctionDef _ _ b _ _ _ _ _ _ _ => b
  | _ => []
def defScope (s : Stmt) : Scope := match s with
  | .FunctionDef _ _ _ _ _ _ sc _ _ _ => sc
  | _ => { kind := .function, names := [], isGenerator := false, isCoroutine := false }

/-! ### no exception leaves a def -/
abbrev CX0 : CXT := fun _ _ _ _ _ _ => False
abbrev E0 : XK := fun _ _ _ => False
theorem pass0 {X : Cx} : Passes CX0 X E0 := fun _ _ _ _ _ _ _ h => h.elim

/-! ### a def (or method) of the text as it stands behind the top -/
structure Fun (K : PySem.W.Frag) (x qual : Str) (st : Stmt) (f : Addr) (fd : FuncData) : Prop where
  ex : ∃ (oc : Value) (od : Option Addr) (kV doc pm : Value) (an : Option Addr) (cdv ct : Value) (osl : Array (Option Value)),
    fd = PySem.W.fnOf x qual (defArgs st) (defBody st) (defScope st) .none kV doc pm an cdv ct ∧ K.lookup f = some ⟨oc, od, .func fd, osl⟩ ∧ PySem.W.codeIn K cdv qual = true
  kp : PySem.W.keepIn K (.ref f) = true
section
variable {P : Program} {w : World} {K : PySem.W.Frag} {mg : Str → Option Value} {base : Heap}
/-- THE RULE for a def: its body as a term of rules, and the reading of that term -/
theorem Fun.ok {x qual : Str} {st : Stmt} {f : Addr} {fd : FuncData} {N ps : List Str} {k : Nat} {sp : Sp} (F : Fun K x qual st f fd) (S : FnScope N ps (defScope st)) (len : ∀ vs H Q E, sp vs H Q E → vs.length = ps.length)
    (hbody : ∀ (cdv : Value) (A : Around) (outer : List Env) (s : Shared) (H : Hp) (vs : List V) (Q : VK) (E : XK), Room k (A.deeper (envOfC qual (defScope st) s.heap.objs.size f cdv)) → sp vs H Q E →
      ∃ t, PSs (cxOf CX0 P w K mg base N qual (defScope st) f cdv A outer s H E).nox (defBody st) t ∧ t { nx := fun _ H' => Q .non H', rt := Q } (start N vs) H) : FnOk P w K mg base CX0 (k + 1) f fd ps sp := by
  obtain ⟨oc, od, kV, doc, pm, an, cdv, ct, osl, rfl, lk, hcd⟩ := F.ex
  refine fn_of lk hcd S len fun A outer s H vs Q E hr hsp => ?_
  obtain ⟨t, h, q⟩ := hbody cdv A outer s H vs Q E hr hsp
  exact ⟨t, h.nox, q⟩
/-- how its arguments bind (no defaults): h is «fun _ _ _ _ _ _ us hl => match us, hl with | [_, _], _ => rfl», one _ a parameter -/
theorem Fun.binds {x qual : Str} {st : Stmt} {f : Addr} {fd : FuncData} {ps : List Str} (F : Fun K x qual st f fd)
    (h : ∀ (kV doc pm : Value) (an : Option Addr) (cdv ct : Value) (us : List Value), us.length = ps.length → bindArgs (PySem.W.fnOf x qual (defArgs st) (defBody st) (defScope st) .none kV doc pm an cdv ct) ⟨us, []⟩ = pure (ps.zip us)) : Binds K fd ps [] := by
  obtain ⟨oc, od, kV, doc, pm, an, cdv, ct, osl, rfl, lk, hcd⟩ := F.ex
  exact .all (h kV doc pm an cdv ct)
theorem fun_mk {x qual : Str} {st : Stmt} {f : Addr} {oc : Value} {od an : Option Addr} {osl : Array (Option Value)} {kV doc pm cdv ct : Value} (l : K.lookup f = some ⟨oc, od, .func (PySem.W.fnOf x qual (defArgs st) (defBody st) (defScope st) .none kV doc pm an cdv ct), osl⟩)
    (c : PySem.W.codeIn K cdv qual = true) (k : PySem.W.keepIn K (.ref f) = true) : Fun K x qual st f (PySem.W.fnOf x qual (defArgs st) (defBody st) (defScope st) .none kV doc pm an cdv ct) := ⟨⟨oc, od, kV, doc, pm, an, cdv, ct, osl, rfl, l, c⟩, k⟩
end
theorem hu_of {A : Around} {k : Nat} (hr : Room k A) : A.units + 1 < cLine := Nat.lt_of_le_of_lt (Nat.add_le_add_left (by decide : 1 ≤ 64) _) hr.units
theorem small1000 {n : Nat} (h : n ≤ 1000) : n < sizeLine := Nat.lt_of_le_of_lt h (by decide)

/-! ### expressions in short: the name that stands in the i-th slot -/
section
variable {X : Cx}
theorem pv (i : Nat) {x : Str} {pos : Pos} (hN : X.N[i]? = some x := by rfl) (hv : Vis X.env.scope x := by first | exact Or.inl rfl | exact Or.inr (Or.inl rfl) | exact Or.inr (Or.inr rfl)) (hd : (x == ("__debug__" : Str)) = false := by decide)
    (hcd : (x == ("__classdict__" : Str)) = false := by decide) : PE X (.Name x pos) (tVar i) := pe_var hN hv hd hcd
end

/-! ### tests -/
theorem iteF {A B : Prop} (h : B) : if false = true then A else B := by
  rw [if_neg Bool.false_ne_true]
  exact h
theorem iteT {A B : Prop} (h : A) : if true = true then A else B := by
  rw [if_pos rfl]
  exact h
theorem ite2 {c A B : Prop} [Decidable c] (h1 : c → A) (h2 : ¬ c → B) : if c then A else B := by
  by_cases h : c
  · rw [if_pos h]
    exact h1 h
  · rw [if_neg h]
    exact h2 h
theorem iteNS {c A B : Prop} [Decidable c] (hc : c) (h : B) : if (!decide c) = true then A else B := by
  rw [decide_eq_true hc]
  exact iteF h

/-! ### heaps -/
/-- all that was tracked is as it was -/
def Same (H H' : Hp) : Prop := ∀ b o, H b = some o → H' b = some o
theorem Same.refl (H : Hp) : Same H H := fun _ _ h => h
theorem Same.trans {H H1 H2 : Hp} (a : Same H H1) (b : Same H1 H2) : Same H H2 := fun c o h => b c o (a c o h)
theorem Same.free {H H' : Hp} (e : Same H H') {l : Addr} (h : H' l = Option.none) : H l = Option.none := by
  cases q : H l with
  | none => rfl
  | some o =>
    rw [e l o q] at h
    cases h
theorem Same.seq {K : PySem.W.Frag} {H H' : Hp} {a : Addr} {xs : List V} (e : Same H H') (h : SqL K H a xs) : SqL K H' a xs := by
  rcases h with (h | ⟨o, h⟩) | h
  · exact .inl (.inl (e _ _ h))
  · exact .inl (.inr ⟨o, e _ _ h⟩)
  · exact .inr h

end L2

namespace Nm
/-- prime, by trial -/
def primeB (n : Nat) : Bool := decide (1 < n) && (List.range n).all fun d => decide (d < 2) || decide (n % d ≠ 0)
/-- a kind: nought, or a prime below 99 -/
structure Pr (k : Int) : Prop where
  lo : 1 < k
  hi : k < 99
  pr : primeB k.toNat = true
def KindOk (k : Int) : Prop := k = 0 ∨ Pr k
theorem KindOk.lt {k : Int} (h : KindOk k) : 0 ≤ k ∧ k < 99 := by
  rcases h with h | h
  · omega
  · have := h.lo; have := h.hi; omega
theorem prime_cop_nat : ∀ k < 99, primeB k = true → ∀ r < k, 0 < r → Nat.gcd k r = 1 := by decide +kernel
theorem Pr.cop {k r : Int} (h : Pr k) (h0 : 0 < r) (h1 : r < k) : Int.gcd k r = 1 := by
  have := prime_cop_nat k.toNat (by have := h.hi; omega) h.pr r.toNat (by omega) (by omega)
  have e1 : k.natAbs = k.toNat := by omega
  have e2 : r.natAbs = r.toNat := by omega
  rw [Int.gcd_eq_natAbs_gcd_natAbs, e1, e2]; exact this
theorem prime_end_nat' : ∀ n < 99, ∀ b < 11, n < b * b → ((List.range b).all fun d => decide (d < 2) || decide (n % d ≠ 0)) = true → decide (1 < n) = primeB n := by decide +kernel
theorem prime_end_nat (n : Nat) (hn : n < 99) (b : Nat) (hb : b < 11) (h : n < b * b) (no : ∀ d < b, 2 ≤ d → n % d ≠ 0) : decide (1 < n) = primeB n := by
  refine prime_end_nat' n hn b hb h ?_
  rw [List.all_eq_true]
  intro d hd
  rw [List.mem_range] at hd
  by_cases z : d < 2
  · simp [z]
  · have := no d hd (by omega)
    simp [this]
theorem prime_stop_nat : ∀ n < 99, ∀ b < 11, 2 ≤ b → b * b ≤ n → n % b = 0 → primeB n = false := by decide +kernel
/-- the loop of is_prime: no divisor below by -/
structure PrInv (n b : Int) : Prop where
  lo : 2 ≤ b
  hi : b ≤ 10
  no : ∀ d : Nat, d < b.toNat → 2 ≤ d → n.toNat % d ≠ 0
theorem pr_start (n : Int) : PrInv n 2 := ⟨by omega, by omega, fun d h1 h2 => by omega⟩
theorem toNat_mod {n b : Int} (hn : 0 ≤ n) (hb : 0 ≤ b) : (n % b).toNat = n.toNat % b.toNat := by
  obtain ⟨m, rfl⟩ := Int.eq_ofNat_of_zero_le hn
  obtain ⟨c, rfl⟩ := Int.eq_ofNat_of_zero_le hb
  rw [← Int.natCast_emod, Int.toNat_natCast, Int.toNat_natCast, Int.toNat_natCast]
theorem sq_toNat {b : Int} (hb : 0 ≤ b) : (b * b).toNat = b.toNat * b.toNat := by
  obtain ⟨m, rfl⟩ := Int.eq_ofNat_of_zero_le hb
  rw [← Int.natCast_mul, Int.toNat_natCast, Int.toNat_natCast]
theorem sq_mono {a b : Int} (ha : 0 ≤ a) (h : a ≤ b) : a * a ≤ b * b := Int.mul_le_mul h h ha (by omega)
theorem pr_turn {n b : Int} (h : PrInv n b) (hn : 0 ≤ n) (h99 : n < 99) (hs : b * b ≤ n) (hm : n % b ≠ 0) : PrInv n (b + 1) := by
  have h1 := h.lo
  have h2 := h.hi
  have hb : b ≤ 9 := by
    rcases Int.lt_or_le 9 b with h' | h'
    · have := sq_mono (by omega) (show (10 : Int) ≤ b by omega); omega
    · exact h'
  refine ⟨by omega, by omega, fun d hd h2 => ?_⟩
  by_cases e : d = b.toNat
  · subst e
    intro z
    have := toNat_mod hn (show 0 ≤ b by omega)
    rw [z] at this
    have := Int.emod_nonneg n (show b ≠ 0 by omega)
    omega
  · exact h.no d (by omega) h2
theorem pr_stop {n b : Int} (h : PrInv n b) (hn : 0 ≤ n) (h99 : n < 99) (hs : b * b ≤ n) (hm : n % b = 0) : primeB n.toNat = false := by
  have h1 := h.lo
  have h2 := h.hi
  refine prime_stop_nat n.toNat (by omega) b.toNat (by omega) (by omega) ?_ ?_
  · rw [← sq_toNat (by omega)]; omega
  · rw [← toNat_mod hn (by omega), hm]; rfl
theorem pr_end {n b : Int} (h : PrInv n b) (hn : 0 ≤ n) (h99 : n < 99) (hs : n < b * b) : decide (1 < n) = primeB n.toNat := by
  have h1 := h.lo
  have h2 := h.hi
  rw [← prime_end_nat n.toNat (by omega) b.toNat (by omega) (by rw [← sq_toNat (by omega)]; omega) h.no]
  by_cases z : 1 < n
  · rw [decide_eq_true z, decide_eq_true (by omega)]
  · rw [decide_eq_false z, decide_eq_false (by omega)]
/-- Euclid -/
theorem gcd_fmod (a b : Int) : Int.gcd b (a.fmod b) = Int.gcd a b := by
  rw [Int.fmod_def, Int.gcd_sub_mul_left_right, Int.gcd_comm]
theorem fmod_small (a : Int) {b : Int} (hb : b ≠ 0) : (a.fmod b).natAbs < b.natAbs := by
  rcases Int.lt_or_le 0 b with h | h
  · have h1 := Int.fmod_nonneg_of_pos a h
    have h2 := Int.fmod_lt_of_pos a h
    omega
  · have hb' : 0 < -b := by omega
    have h1 := Int.fmod_nonneg_of_pos (-a) hb'
    have h2 := Int.fmod_lt_of_pos (-a) hb'
    have e : (-a).fmod (-b) = -(a.fmod b) := by
      rw [Int.neg_fmod_neg]
    omega
end Nm

namespace Nm
/-- the loop of one_over -/
structure OvInv (p r l g ml mg : Int) : Prop where
  l0 : 0 ≤ l
  l1 : l ≤ 98
  g0 : 0 ≤ g
  g1 : g ≤ 98
  cop : Int.gcd l g = 1
  left : p ∣ l - ml * r
  right : p ∣ g - mg * r
theorem ov_start {p r : Int} (h : Pr p) (h0 : 0 < r) (h1 : r < p) : OvInv p r p r 0 1 := by
  have := h.lo; have := h.hi
  refine ⟨by omega, by omega, by omega, by omega, h.cop h0 h1, ?_, ?_⟩
  · rw [Int.zero_mul, Int.sub_zero]; exact Int.dvd_refl p
  · rw [Int.one_mul, Int.sub_self]; exact Int.dvd_zero p
theorem ov_turn {p r l g ml mg : Int} (h : OvInv p r l g ml mg) (hg : g ≠ 0) : OvInv p r g (l - l / g * g) mg (ml - l / g * mg) := by
  have g0 := h.g0
  have g1 := h.g1
  have e : l - l / g * g = l % g := by
    have := Int.emod_add_mul_ediv l g
    rw [Int.mul_comm (l / g) g]; omega
  have m0 := Int.emod_nonneg l hg
  have m1 := Int.emod_lt_of_pos l (show 0 < g by omega)
  refine ⟨g0, g1, by omega, by omega, ?_, h.right, ?_⟩
  · rw [Int.gcd_sub_mul_right_right, Int.gcd_comm]; exact h.cop
  · have e2 : l - l / g * g - (ml - l / g * mg) * r = (l - ml * r) - l / g * (g - mg * r) := by grind
    rw [e2]
    exact Int.dvd_sub h.left (Int.dvd_mul_of_dvd_right h.right)
theorem ov_meas {l g : Int} (g0 : 0 ≤ g) (hg : g ≠ 0) : (l - l / g * g).toNat < g.toNat := by
  have e : l - l / g * g = l % g := by
    have := Int.emod_add_mul_ediv l g
    rw [Int.mul_comm (l / g) g]; omega
  have m0 := Int.emod_nonneg l hg
  have m1 := Int.emod_lt_of_pos l (show 0 < g by omega)
  omega
theorem ov_end {p r l ml mg : Int} (h : OvInv p r l 0 ml mg) (hp : 0 < p) : p ∣ ml % p * r - 1 := by
  have c := h.cop
  rw [Int.gcd_zero] at c
  have e : l = 1 := by have := h.l0; omega
  have d := h.left
  rw [e] at d
  have e1 : ml % p * r - 1 = -(1 - ml * r) - p * (ml / p) * r := by
    have := Int.emod_add_mul_ediv ml p
    grind
  rw [e1]
  exact Int.dvd_sub (Int.dvd_neg.mpr d) (Int.dvd_mul_of_dvd_left (Int.dvd_mul_right p _))
/-- fraction(top, bottom): the sign belongs to the top alone -/
def sg (t b : Int) : Int := if b < 0 then -((Int.gcd t b : Nat) : Int) else ((Int.gcd t b : Nat) : Int)
theorem sg_ne {t b : Int} (hb : b ≠ 0) : sg t b ≠ 0 := by
  have := Int.gcd_pos_of_ne_zero_right t hb
  unfold sg; split <;> omega
theorem sg_abs (t b : Int) : (sg t b).natAbs = Int.gcd t b := by
  unfold sg; split <;> omega
theorem sg_dvd_t (t b : Int) : sg t b ∣ t := by
  unfold sg; split
  · exact Int.neg_dvd.mpr (Int.gcd_dvd_left t b)
  · exact Int.gcd_dvd_left t b
theorem sg_dvd_b (t b : Int) : sg t b ∣ b := by
  unfold sg; split
  · exact Int.neg_dvd.mpr (Int.gcd_dvd_right t b)
  · exact Int.gcd_dvd_right t b
theorem rat_eq_of {q : Rat} {t b : Int} (hb : b ≠ 0) (h : q.num * b = t * q.den) : Rat.divInt t b = q := by
  rw [← Rat.num_divInt_den q]
  have hd : (q.den : Int) ≠ 0 := by have := q.den_nz; omega
  rw [Rat.divInt_eq_divInt_iff hb hd]
  omega
theorem divInt_cross {t b : Int} (hb : b ≠ 0) : (Rat.divInt t b).num * b = t * (Rat.divInt t b).den := by
  have hd : ((Rat.divInt t b).den : Int) ≠ 0 := by have := (Rat.divInt t b).den_nz; omega
  have := (Rat.divInt_eq_divInt_iff hd hb).mp (Rat.num_divInt_den (Rat.divInt t b))
  exact this
theorem frac_num {t b : Int} (hb : b ≠ 0) : t.fdiv (sg t b) = (Rat.divInt t b).num ∧ b.fdiv (sg t b) = ((Rat.divInt t b).den : Nat) := by
  have hs := sg_ne (t := t) hb
  rw [Int.fdiv_eq_ediv_of_dvd (sg_dvd_t t b), Int.fdiv_eq_ediv_of_dvd (sg_dvd_b t b)]
  have et := Int.ediv_mul_cancel (sg_dvd_t t b)
  have eb := Int.ediv_mul_cancel (sg_dvd_b t b)
  have hpos : 0 < b / sg t b := by
    have hne : b / sg t b ≠ 0 := fun z => by rw [z, Int.zero_mul] at eb; exact hb eb.symm
    have hg := Int.gcd_pos_of_ne_zero_right t hb
    rcases Int.lt_or_le b 0 with h | h
    · have e : sg t b = -((Int.gcd t b : Nat) : Int) := by unfold sg; rw [if_pos h]
      have : 0 ≤ b / sg t b := Int.ediv_nonneg_of_nonpos_of_nonpos (by omega) (by omega)
      omega
    · have e : sg t b = ((Int.gcd t b : Nat) : Int) := by unfold sg; rw [if_neg (by omega)]
      have : 0 ≤ b / sg t b := Int.ediv_nonneg (by omega) (by omega)
      omega
  have hcop : Int.gcd (t / sg t b) (b / sg t b) = 1 := by
    rw [Int.gcd_ediv (sg_dvd_t t b) (sg_dvd_b t b), sg_abs]
    exact Nat.div_self (Int.gcd_pos_of_ne_zero_right t hb)
  let q : Rat := ⟨t / sg t b, (b / sg t b).toNat, by omega, by
    show Nat.gcd (t / sg t b).natAbs (b / sg t b).toNat = 1
    have : (b / sg t b).toNat = (b / sg t b).natAbs := by omega
    rw [this]; exact hcop⟩
  have hq : Rat.divInt t b = q := rat_eq_of hb (by
    show t / sg t b * b = t * (((b / sg t b).toNat : Nat) : Int)
    have e : (((b / sg t b).toNat : Nat) : Int) = b / sg t b := by omega
    rw [e]
    have : t / sg t b * b = t / sg t b * (b / sg t b * sg t b) := by rw [eb]
    have : t * (b / sg t b) = t / sg t b * sg t b * (b / sg t b) := by rw [et]
    grind)
  rw [hq]
  refine ⟨rfl, ?_⟩
  show b / sg t b = (((b / sg t b).toNat : Nat) : Int)
  omega
theorem rat_add (x y : Rat) : Rat.divInt (x.num * y.den + y.num * x.den) (x.den * y.den) = x + y := by
  rw [Rat.add_def', ← Rat.divInt_ofNat]; simp
theorem rat_sub (x y : Rat) : Rat.divInt (x.num * y.den - y.num * x.den) (x.den * y.den) = x - y := by
  rw [Rat.sub_def', ← Rat.divInt_ofNat]; simp
theorem rat_mul (x y : Rat) : Rat.divInt (x.num * y.num) (x.den * y.den) = x * y := by
  rw [Rat.mul_def', ← Rat.divInt_ofNat]; simp
theorem rat_div (x y : Rat) : Rat.divInt (x.num * y.den) (x.den * y.num) = x / y := by
  rw [Rat.div_def, Rat.inv_def, ← Rat.num_divInt_den x, Rat.divInt_mul_divInt]
  simp [Rat.num_divInt_den]
end Nm

namespace Nm
/-- a number: a fraction, or a rest -/
inductive Nb where
  | q (r : Rat)
  | z (i : Int)
  deriving DecidableEq
/-- a number of the kind -/
def Nb.ok (k : Int) : Nb → Prop
  | .q _ => k = 0
  | .z i => k ≠ 0 ∧ 0 ≤ i ∧ i < k
/-- x over y by rests -/
def zinv (k b : Int) : Int := (((List.range k.toNat).find? fun (x : Nat) => decide (k ∣ (x : Int) * b - 1)).getD 0 : Nat)
theorem inv_unique {k b x y : Int} (hx0 : 0 ≤ x) (hx : x < k) (hy0 : 0 ≤ y) (hy : y < k) (h1 : k ∣ x * b - 1) (h2 : k ∣ y * b - 1) : x = y := by
  have h : k ∣ x - y := by
    have e : x - y = y * (x * b - 1) - x * (y * b - 1) := by grind
    rw [e]
    exact Int.dvd_sub (Int.dvd_mul_of_dvd_right h1) (Int.dvd_mul_of_dvd_right h2)
  obtain ⟨c, hc⟩ := h
  rcases Int.lt_or_le c 0 with h | h
  · have : k * c ≤ k * (-1) := Int.mul_le_mul_of_nonneg_left (by omega) (by omega)
    omega
  · rcases Int.lt_or_le 0 c with h' | h'
    · have : k * 1 ≤ k * c := Int.mul_le_mul_of_nonneg_left (by omega) (by omega)
      omega
    · have : c = 0 := by omega
      rw [this, Int.mul_zero] at hc
      omega
theorem zinv_of {k b x : Int} (h0 : 0 ≤ x) (h1 : x < k) (h : k ∣ x * b - 1) : zinv k b = x := by
  unfold zinv
  cases e : (List.range k.toNat).find? fun (x : Nat) => decide (k ∣ (x : Int) * b - 1) with
  | none =>
    rw [List.find?_eq_none] at e
    have := e x.toNat (by rw [List.mem_range]; omega)
    rw [show ((x.toNat : Nat) : Int) = x by omega] at this
    simp [h] at this
  | some y =>
    have hm := List.mem_of_find?_eq_some e
    rw [List.mem_range] at hm
    have hp := List.find?_some e
    have hp' : k ∣ (y : Int) * b - 1 := by simpa using hp
    show ((y : Nat) : Int) = x
    exact inv_unique (Int.natCast_nonneg y) (by omega) h0 h1 hp' h
/-- every rest but nought has one that undoes it -/
theorem inv_nat : ∀ k < 99, primeB k = true → ((List.range k).all fun r => decide (r = 0) || ((List.range k).any fun x => decide ((x * r) % k = 1 % k))) = true := by decide +kernel
theorem inv_exists {k b : Int} (h : Pr k) (h0 : 0 < b) (h1 : b < k) : ∃ x, 0 ≤ x ∧ x < k ∧ k ∣ x * b - 1 := by
  have := inv_nat k.toNat (by have := h.hi; omega) h.pr
  rw [List.all_eq_true] at this
  have hb := this b.toNat (by rw [List.mem_range]; omega)
  rw [Bool.or_eq_true] at hb
  rcases hb with hb | hb
  · have : b.toNat = 0 := by simpa using hb
    omega
  · rw [List.any_eq_true] at hb
    obtain ⟨x, hx, hp⟩ := hb
    rw [List.mem_range] at hx
    have hp' : (x * b.toNat) % k.toNat = 1 % k.toNat := by simpa using hp
    refine ⟨(x : Int), Int.natCast_nonneg x, by omega, ?_⟩
    have e1 : ((x * b.toNat : Nat) : Int) % k = (1 : Int) % k := by
      have e2 : k = ((k.toNat : Nat) : Int) := by omega
      rw [e2]
      exact_mod_cast congrArg (fun n : Nat => (n : Int)) hp'
    have e3 : ((x * b.toNat : Nat) : Int) = (x : Int) * b := by
      rw [Int.natCast_mul]; congr 1; omega
    rw [e3] at e1
    exact Int.dvd_of_emod_eq_zero (Int.emod_eq_emod_iff_emod_sub_eq_zero.mp e1)
def nnum (k w : Int) : Nb := if k = 0 then .q (w : Rat) else .z (w.fmod k)
def nadd (k : Int) : Nb → Nb → Nb
  | .q a, .q b => .q (a + b)
  | .z a, .z b => .z ((a + b).fmod k)
  | _, _ => .z 0
def nsub (k : Int) : Nb → Nb → Nb
  | .q a, .q b => .q (a - b)
  | .z a, .z b => .z ((a - b).fmod k)
  | _, _ => .z 0
def nmul (k : Int) : Nb → Nb → Nb
  | .q a, .q b => .q (a * b)
  | .z a, .z b => .z ((a * b).fmod k)
  | _, _ => .z 0
def ndiv (k : Int) : Nb → Nb → Nb
  | .q a, .q b => .q (a / b)
  | .z a, .z b => .z ((a * zinv k b).fmod k)
  | _, _ => .z 0
/-- found is top over bottom -/
def IsFr (k : Int) (x : Nb) (t b : Int) : Prop := match x with
  | .q r => r.num * b = t * r.den
  | .z i => (i * b - t).fmod k = 0
theorem fmod_zero_of_dvd {k a : Int} (h : k ∣ a) : a.fmod k = 0 := Int.fmod_eq_zero_of_dvd h
theorem fmod_sub_dvd (k a : Int) : k ∣ a.fmod k - a := by
  rw [Int.fmod_def]
  refine ⟨-(a.fdiv k), ?_⟩
  grind
theorem isFr_div {t b : Int} (hb : b ≠ 0) : IsFr 0 (.q (Rat.divInt t b)) t b := divInt_cross hb
theorem den_ne (r : Rat) : (r.den : Int) ≠ 0 := by have := r.den_nz; omega
theorem den_pos (r : Rat) : 0 < (r.den : Int) := by have := r.den_pos; omega
theorem gcd_rat (r : Rat) : Int.gcd r.num r.den = 1 := by
  have := r.reduced
  rw [Int.gcd_eq_natAbs_gcd_natAbs, Int.natAbs_natCast]
  exact this
theorem num_ne {r : Rat} (h : r ≠ 0) : r.num ≠ 0 := fun z => h (Rat.num_eq_zero.mp z)
end Nm

namespace L2
open PySem PySem.Spec PyProof.Rows
/-! ### built-ins by their names -/
theorem bb_len : bootBuiltins "len" = some (.builtin "len") := by decide +kernel
theorem bb_abs : bootBuiltins "abs" = some (.builtin "abs") := by decide +kernel
theorem bb_isinstance : bootBuiltins "isinstance" = some (.builtin "isinstance") := by decide +kernel
theorem bb_sum : bootBuiltins "sum" = some (.builtin "sum") := by decide +kernel
theorem bb_max : bootBuiltins "max" = some (.builtin "max") := by decide +kernel
theorem bb_min : bootBuiltins "min" = some (.builtin "min") := by decide +kernel
theorem bb_sorted : bootBuiltins "sorted" = some (.builtin "sorted") := by decide +kernel
theorem bb_int : bootBuiltins "int" = some (.type "int") := by decide +kernel
theorem bb_bool : bootBuiltins "bool" = some (.type "bool") := by decide +kernel
theorem bb_str : bootBuiltins "str" = some (.type "str") := by decide +kernel
theorem bb_list : bootBuiltins "list" = some (.type "list") := by decide +kernel
theorem bb_tuple : bootBuiltins "tuple" = some (.type "tuple") := by decide +kernel
theorem bb_dict : bootBuiltins "dict" = some (.type "dict") := by decide +kernel
theorem bb_range : bootBuiltins "range" = some (.type "range") := by decide +kernel
theorem bb_zip : bootBuiltins "zip" = some (.type "zip") := by decide +kernel
theorem bb_enumerate : bootBuiltins "enumerate" = some (.type "enumerate") := by decide +kernel
theorem bb_reversed : bootBuiltins "reversed" = some (.type "reversed") := by decide +kernel
/-! ### sizes of ints -/
def Sm (n : Nat) (x : Int) : Prop := x.natAbs < 2 ^ n
theorem Sm.bits {n : Nat} {x : Int} (h : Sm n x) : Builtin.Int.intBits x ≤ n := by
  unfold Builtin.Int.intBits
  split
  · exact Nat.zero_le _
  · rename_i h0
    have h0' : x.natAbs ≠ 0 := by
      intro z
      have e : x = 0 := by omega
      rw [e] at h0
      exact h0 rfl
    have := (Nat.log2_lt h0').mpr h
    omega
theorem Sm.mulOk {m n : Nat} {a b : Int} (ha : Sm m a) (hb : Sm n b) (h : m + n ≤ 134217728) : IntMulOk a b := IntMulOk.of_le ha.bits hb.bits h
theorem Sm.log {n : Nat} {x : Int} (h : Sm n x) (hn : n ≤ 9000) : x.natAbs.log2 < 9000 := by
  by_cases h0 : x.natAbs = 0
  · rw [h0, Nat.log2_zero]; decide
  · exact (Nat.log2_lt h0).mpr (Nat.lt_of_lt_of_le h (Nat.pow_le_pow_right (by decide) hn))
theorem Sm.mono {m n : Nat} {x : Int} (h : Sm m x) (hmn : m ≤ n) : Sm n x := Nat.lt_of_lt_of_le h (Nat.pow_le_pow_right (by decide) hmn)
theorem Sm.mul {m n : Nat} {a b : Int} (ha : Sm m a) (hb : Sm n b) : Sm (m + n) (a * b) := by
  unfold Sm
  rw [Int.natAbs_mul, Nat.pow_add]
  exact Nat.mul_lt_mul'' ha hb
theorem Sm.add {n : Nat} {a b : Int} (ha : Sm n a) (hb : Sm n b) : Sm (n + 1) (a + b) := by
  unfold Sm at *
  rw [Nat.pow_succ]
  have := Int.natAbs_add_le a b
  omega
theorem Sm.sub {n : Nat} {a b : Int} (ha : Sm n a) (hb : Sm n b) : Sm (n + 1) (a - b) := by
  unfold Sm at *
  rw [Nat.pow_succ]
  have := Int.natAbs_sub_le a b
  omega
theorem Sm.neg {n : Nat} {a : Int} (ha : Sm n a) : Sm n (-a) := by
  unfold Sm at *; rw [Int.natAbs_neg]; exact ha
theorem Sm.le {n : Nat} {a b : Int} (ha : Sm n a) (h : b.natAbs ≤ a.natAbs) : Sm n b := Nat.lt_of_le_of_lt h ha

section
variable {X : Cx} {a b c : Expr} {ta tb tc : TE} {pos : Pos}
theorem op_mulB : OpR X (binaryOp .Mult) (rI IntMulOk fun i j => .int (i * j)) := opI fun _ _ _ _ _ _ _ hc q => mul_int q hc
def CDivB (_ j : Int) : Prop := j ≠ 0 ∧ j.natAbs.log2 < 9000
theorem op_fdivB : OpR X (binaryOp .FloorDiv) (rI CDivB fun i j => .int (i.fdiv j)) := opI fun _ _ _ _ _ _ _ hc q => floordiv_int hc.1 q (.inl (PyProof.noPylong_of_log2 hc.2))
/-! ### isinstance -/
def rIsi (K : PySem.W.Frag) : List V → Hp → VK → Prop := fun xs H Q => ∃ x n t b, xs = [x, .ty n] ∧ TyOf K H x t ∧ PySem.W.kitOne K t (.type n) = some b ∧ Q (.bl b) H
theorem call_isi : CallR X (.builtin "isinstance") (rIsi X.K) := by
  intro pins s σ H xs us Q I r h
  obtain ⟨x, n, t, b, rfl, ty, e, q⟩ := h
  obtain ⟨u, w', rfl, r1, r2⟩ := Vals.two r
  cases r2
  exact isinst_ok I r1 ty e fun tk => ⟨.bl b, H, I.tok tk, rfl, q⟩
theorem pe_ty {x : Str} {n : String} (hg : Gl X x) (hm : X.mg x = none) (hv : bootBuiltins x = some (.type n)) (hn : x ≠ "__name__" := by decide) (hd : (x == ("__debug__" : Str)) = false := by decide) : PE X (.Name x pos) (tC (.ty n)) :=
  pe_bltn hg hm hv rfl hn hd
end

/-! ### defs by their promises -/
structure Kn (P : Program) (w : World) (K : PySem.W.Frag) (mg : Str → Option Value) (base : Heap) (x : Str) (k : Nat) (ps : List Str) (sp : Sp) : Prop where
  ex : ∃ (f : Addr) (fd : FuncData), FnOk P w K mg base CX0 k f fd ps sp ∧ mg x = some (.ref f) ∧ PySem.W.keepIn K (.ref f) = true ∧ Binds K fd ps []
theorem pe_kn {X : Cx} {x : Str} {k : Nat} {ps : List Str} {sp : Sp} {p pos : Pos} {e : Expr} {es : List Expr} {t : TA} (D : Kn X.prog X.w X.K X.mg X.base x k ps sp) (hr : Room k X.A) (hg : Gl X x) (ha : PA X (e :: es) t)
    (hdb : (x == ("__debug__" : Str)) = false := by decide) (he : starEach (e :: es) X.env = (false, eval e X.env) :: starEach es X.env := by rfl) (hpl : (backTo pos (starEach es X.env)).any (·.1) = false := by rfl) :
    PE X (.Call (.Name x p) (e :: es) [] pos) (tCall sp [] E0 t) := by
  obtain ⟨f, fd, F, hm, hk, hb⟩ := D.ex
  exact pe_call F hr hg hm hk hb .nil pass0 ha hdb he hpl
structure Df (K : PySem.W.Frag) (mg : Str → Option Value) (x : Str) (ps : List Str) (st : Stmt) : Prop where
  ex : ∃ (f : Addr) (fd : FuncData), Fun K x x st f fd ∧ mg x = some (.ref f) ∧ Binds K fd ps []
section
variable {P : Program} {w : World} {K : PySem.W.Frag} {mg : Str → Option Value} {base : Heap}
theorem Df.kn {x : Str} {st : Stmt} {N ps : List Str} {k : Nat} {sp : Sp} (D : Df K mg x ps st) (S : FnScope N ps (defScope st)) (len : ∀ vs H Q E, sp vs H Q E → vs.length = ps.length)
    (hbody : ∀ (f : Addr) (cdv : Value) (A : Around) (outer : List Env) (s : Shared) (H : Hp) (vs : List V) (Q : VK) (E : XK), Room k (A.deeper (envOfC x (defScope st) s.heap.objs.size f cdv)) → sp vs H Q E →
      ∃ t, PSs (cxOf CX0 P w K mg base N x (defScope st) f cdv A outer s H E).nox (defBody st) t ∧ t { nx := fun _ H' => Q .non H', rt := Q } (start N vs) H) : Kn P w K mg base x (k + 1) ps sp := by
  obtain ⟨f, fd, F, hm, hb⟩ := D.ex
  exact ⟨f, fd, F.ok S len (fun cdv A outer s H vs Q E hr h => hbody f cdv A outer s H vs Q E hr h), hm, F.kp, hb⟩
theorem Kn.mono {x : Str} {ps : List Str} {j k : Nat} {sp : Sp} (D : Kn P w K mg base x j ps sp) (h : j ≤ k) : Kn P w K mg base x k ps sp := by
  obtain ⟨f, fd, F, r⟩ := D.ex
  exact ⟨f, fd, F.mono h, r⟩
theorem df_mk {x : Str} {ps : List Str} {st : Stmt} {h : Heap} {f : Addr} {oc : Value} {od an : Option Addr} {osl : Array (Option Value)} {kV doc pm cdv ct : Value} (X : K.In h) (G : h.Ns mainGlobals mg)
    (a : PySem.W.nsIn K mainGlobals x = some (some (.ref f)))
    (l : K.lookup f = some ⟨oc, od, .func (PySem.W.fnOf x x (defArgs st) (defBody st) (defScope st) .none kV doc pm an cdv ct), osl⟩)
    (c : PySem.W.codeIn K cdv x = true) (k : PySem.W.keepIn K (.ref f) = true)
    (hb : ∀ (kV doc pm : Value) (an : Option Addr) (cdv ct : Value) (us : List Value), us.length = ps.length → bindArgs (PySem.W.fnOf x x (defArgs st) (defBody st) (defScope st) .none kV doc pm an cdv ct) ⟨us, []⟩ = pure (ps.zip us)) : Df K mg x ps st := by
  have F := fun_mk (st := st) l c k
  exact ⟨f, _, F, PySem.W.mg_of X G a, F.binds hb⟩
end
/-- as many values as names, opened once for all defs -/
theorem bind0 {fd : FuncData} {ps : List Str} (h : bindArgs fd ⟨[], []⟩ = pure (ps.zip [])) (us : List Value) (e : us.length = 0) : bindArgs fd ⟨us, []⟩ = pure (ps.zip us) := by
  match us, e with | [], _ => exact h
theorem bind1 {fd : FuncData} {ps : List Str} (h : ∀ a0, bindArgs fd ⟨[a0], []⟩ = pure (ps.zip [a0])) (us : List Value) (e : us.length = 1) : bindArgs fd ⟨us, []⟩ = pure (ps.zip us) := by
  match us, e with | [a0], _ => exact h a0
theorem bind2 {fd : FuncData} {ps : List Str} (h : ∀ a0 a1, bindArgs fd ⟨[a0, a1], []⟩ = pure (ps.zip [a0, a1])) (us : List Value) (e : us.length = 2) : bindArgs fd ⟨us, []⟩ = pure (ps.zip us) := by
  match us, e with | [a0, a1], _ => exact h a0 a1
theorem bind3 {fd : FuncData} {ps : List Str} (h : ∀ a0 a1 a2, bindArgs fd ⟨[a0, a1, a2], []⟩ = pure (ps.zip [a0, a1, a2])) (us : List Value) (e : us.length = 3) : bindArgs fd ⟨us, []⟩ = pure (ps.zip us) := by
  match us, e with | [a0, a1, a2], _ => exact h a0 a1 a2
theorem bind4 {fd : FuncData} {ps : List Str} (h : ∀ a0 a1 a2 a3, bindArgs fd ⟨[a0, a1, a2, a3], []⟩ = pure (ps.zip [a0, a1, a2, a3])) (us : List Value) (e : us.length = 4) : bindArgs fd ⟨us, []⟩ = pure (ps.zip us) := by
  match us, e with | [a0, a1, a2, a3], _ => exact h a0 a1 a2 a3
theorem bind5 {fd : FuncData} {ps : List Str} (h : ∀ a0 a1 a2 a3 a4, bindArgs fd ⟨[a0, a1, a2, a3, a4], []⟩ = pure (ps.zip [a0, a1, a2, a3, a4])) (us : List Value) (e : us.length = 5) : bindArgs fd ⟨us, []⟩ = pure (ps.zip us) := by
  match us, e with | [a0, a1, a2, a3, a4], _ => exact h a0 a1 a2 a3 a4
theorem bind6 {fd : FuncData} {ps : List Str} (h : ∀ a0 a1 a2 a3 a4 a5, bindArgs fd ⟨[a0, a1, a2, a3, a4, a5], []⟩ = pure (ps.zip [a0, a1, a2, a3, a4, a5])) (us : List Value) (e : us.length = 6) : bindArgs fd ⟨us, []⟩ = pure (ps.zip us) := by
  match us, e with | [a0, a1, a2, a3, a4, a5], _ => exact h a0 a1 a2 a3 a4 a5
/-- what law(script) promises: for a list of at most 63 ints the answer is True -/
def spLaw (K : PySem.W.Frag) : Sp := fun vs H Q _ => ∃ (a : Addr) (ns : List Int), vs = [.ref a] ∧ SqL K H a (ns.map V.int) ∧ ns.length ≤ 63 ∧ ∀ H', Q (.bl true) H'
theorem same_new {H : Hp} {p : Addr} (h : H p = none) (o : HO) : Same H (upd H p o) := fun b u q => by rw [upd_ne (ne_of_none q h)]; exact q
theorem law_mk {K : PySem.W.Frag} {mg : Str → Option Value} {st : Stmt} {h : Heap} {f fa : Addr} {oc : Value} {od an : Option Addr} {osl : Array (Option Value)} {kV doc pm cdv ct : Value} (X : K.In h) (G : h.Ns mainGlobals mg) (hmg : mg "law" = some (.ref fa))
    (a : PySem.W.nsIn K mainGlobals "law" = some (some (.ref f)))
    (l : K.lookup f = some ⟨oc, od, .func (PySem.W.fnOf "law" "law" (defArgs st) (defBody st) (defScope st) .none kV doc pm an cdv ct), osl⟩)
    (c : PySem.W.codeIn K cdv "law" = true) (k : PySem.W.keepIn K (.ref f) = true)
    (hb : ∀ (kV doc pm : Value) (an : Option Addr) (cdv ct : Value) (v : Value), bindArgs (PySem.W.fnOf "law" "law" (defArgs st) (defBody st) (defScope st) .none kV doc pm an cdv ct) ⟨[v], []⟩ = pure [(("_law_script" : Str), v)]) :
    ∃ fd : FuncData, Fun K "law" "law" st fa fd ∧ ∀ (s : Shared) (v : Value), BindsTo s fd ⟨[v], []⟩ [("_law_script", v)] := by
  have e := hmg.symm.trans (PySem.W.mg_of X G a)
  cases e
  exact ⟨_, fun_mk (st := st) l c k, fun s v => .of_eq (hb _ _ _ _ _ _ v)⟩
theorem walk {l : PySem.W.OpenLaw} {q : Program} {loose : List Str} {XP : (Str → Option Value) → Heap → Prop} {YP : World → Heap → Prop} {d : DefRec} {K : Params → PySem.W.Frag} (k : Nat) (hn : l.most = some 63) (hdf : d.params.defaults = []) (hr : Room k callerA) (hi : PyProof.Rows.importsNone q = true)
    (hY : ∀ (w : World) (h : Heap), YP w h → (K w.params).In h)
    (F : ∀ (w : World) (mg : Str → Option Value) (fa : Addr) (h : Heap), (K w.params).In h → h.Ns mainGlobals mg → mg d.name = some (.ref fa) →
      ∃ fd : FuncData, (∀ (s : Shared) (u : Value), BindsTo s fd ⟨[u], []⟩ [("_law_script", u)]) ∧ ∀ base : Heap, (K w.params).In base → base.Ns mainGlobals mg → base.NoSeer → FnOk l.prog w (K w.params) mg base CX0 k fa fd ["_law_script"] (spLaw (K w.params))) :
    PySem.W.WalkO q loose XP YP l.row.toRowW d [] (fun f vs => PySem.call f vs) :=
  L2.walk_of (n := 63) (k := k) (x := "_law_script") (CX := fun _ => CX0) (sp := fun w => spLaw (K w.params)) hn (by decide) hdf hr hi hY F (fun _ _ a ns hl _ hS => ⟨a, ns, rfl, hS, hl, fun _ => rfl⟩) fun _ _ _ _ _ z => z
end L2

namespace L2
open PySem PySem.Spec PyProof.Rows
/-! ### list comprehensions: one for, none or one test -/
def closOf (cells : List (Str × Addr)) : List (Str × NameKind) → List (Str × Addr) → List (Str × Addr)
  | [], acc => acc
  | (n, k) :: r, acc => if (k == NameKind.free) = true then closOf cells r ((n, (cells.lookup n).getD 0) :: acc) else closOf cells r acc
theorem closFor_go {env : Env} (f : Str × NameKind → List (Str × Addr) → Sem (ForInStep (List (Str × Addr))))
    (hf : ∀ name kind cs, f (name, kind) cs = if (kind == NameKind.free) = true then (do let a ← cellOf env name; pure (.yield ((name, a) :: cs))) else pure (.yield cs)) :
    ∀ (l : List (Str × NameKind)) (acc : List (Str × Addr)), (∀ x ∈ l, x.2 = .free → ∃ c, env.cells.lookup x.1 = some c) → (forIn l acc f : Sem _) = pure (closOf env.cells l acc)
  | [], acc, _ => by rw [List.forIn_nil]; rfl
  | (n, k) :: r, acc, h => by
    rw [List.forIn_cons, hf]
    have hr : ∀ x ∈ r, x.2 = .free → ∃ c, env.cells.lookup x.1 = some c := fun x hx => h x (List.mem_cons_of_mem _ hx)
    by_cases hk : (k == NameKind.free) = true
    · obtain ⟨c, hc⟩ := h (n, k) List.mem_cons_self (by simpa using hk)
      rw [if_pos hk]
      have e : cellOf env n = pure c := by unfold cellOf; rw [hc]
      rw [e]
      show (forIn r ((n, c) :: acc) f : Sem _) = _
      rw [closFor_go f hf r _ hr]
      conv => rhs; unfold closOf
      rw [if_pos hk, hc]
      rfl
    · rw [if_neg hk]
      show (forIn r acc f : Sem _) = _
      rw [closFor_go f hf r _ hr]
      conv => rhs; unfold closOf
      rw [if_neg hk]
theorem closureFor_eq {scope : Scope} {env : Env} (h : ∀ x ∈ scope.names, x.2 = .free → ∃ c, env.cells.lookup x.1 = some c) : closureFor scope env = pure (closOf env.cells scope.names []) := by
  simp only [closureFor]
  rw [closFor_go (env := env) _ (fun name kind cs => by cases hk : kind == NameKind.free <;> simp [hk]) scope.names [] h]
  rfl
theorem closOf_mem {cells : List (Str × Addr)} : ∀ {l : List (Str × NameKind)} {acc : List (Str × Addr)} {n : Str} {c : Addr}, (∀ x ∈ l, x.2 = .free → ∃ c, cells.lookup x.1 = some c) → (n, c) ∈ closOf cells l acc →
    (n, c) ∈ acc ∨ ((n, NameKind.free) ∈ l ∧ cells.lookup n = some c)
  | [], acc, n, c, _, h => .inl h
  | (m, k) :: r, acc, n, c, hl, h => by
    have hr : ∀ x ∈ r, x.2 = .free → ∃ c, cells.lookup x.1 = some c := fun x hx => hl x (List.mem_cons_of_mem _ hx)
    unfold closOf at h
    by_cases hk : (k == NameKind.free) = true
    · rw [if_pos hk] at h
      have hk' : k = .free := by simpa using hk
      subst hk'
      obtain ⟨c', hc'⟩ := hl (m, .free) List.mem_cons_self rfl
      rcases closOf_mem hr h with h | ⟨h1, h2⟩
      · rcases List.mem_cons.mp h with e | h
        · have hc2 : cells.lookup m = some c' := hc'
          rw [hc2] at e
          cases e
          exact .inr ⟨List.mem_cons_self, hc'⟩
        · exact .inl h
      · exact .inr ⟨List.mem_cons_of_mem _ h1, h2⟩
    · rw [if_neg hk] at h
      rcases closOf_mem hr h with h | ⟨h1, h2⟩
      · exact .inl h
      · exact .inr ⟨List.mem_cons_of_mem _ h1, h2⟩
theorem lookup_some_of_key {α : Type} : ∀ {l : List (Str × α)} {n : Str}, (∃ c, (n, c) ∈ l) → ∃ c, l.lookup n = some c
  | [], n, ⟨c, h⟩ => nomatch h
  | (m, v) :: r, n, ⟨c, h⟩ => by
    rw [List.lookup_cons]
    cases hb : n == m with
    | true => exact ⟨v, rfl⟩
    | false =>
      rcases List.mem_cons.mp h with e | h
      · cases e; simp at hb
      · exact lookup_some_of_key ⟨c, h⟩
theorem closOf_sub {cells : List (Str × Addr)} : ∀ {l : List (Str × NameKind)} {acc : List (Str × Addr)} {p : Str × Addr}, p ∈ acc → p ∈ closOf cells l acc
  | [], acc, p, h => h
  | (m, k) :: r, acc, p, h => by
    unfold closOf
    split
    · exact closOf_sub (List.mem_cons_of_mem _ h)
    · exact closOf_sub h
theorem closOf_key {cells : List (Str × Addr)} : ∀ {l : List (Str × NameKind)} {acc : List (Str × Addr)} {n : Str}, (n, NameKind.free) ∈ l → ∃ c, (n, c) ∈ closOf cells l acc
  | (m, k) :: r, acc, n, h => by
    unfold closOf
    rcases List.mem_cons.mp h with e | h
    · cases e
      exact ⟨_, closOf_sub List.mem_cons_self⟩
    · split
      · exact closOf_key h
      · exact closOf_key h
theorem cellsFrom_app : ∀ (l : List (Str × NameKind)) (n : Nat) (acc : List (Str × Addr)), cellsFrom n l acc = cellsFrom n l [] ++ acc
  | [], n, acc => rfl
  | (m, k) :: r, n, acc => by
    unfold cellsFrom
    split
    · rw [cellsFrom_app r (n + 1) ((m, n) :: acc), cellsFrom_app r (n + 1) [(m, n)], List.append_assoc]; rfl
    · exact cellsFrom_app r n acc
theorem cellsFrom_mem : ∀ {l : List (Str × NameKind)} {n : Nat} {x : Str} {c : Addr}, (x, c) ∈ cellsFrom n l [] → (x, NameKind.cell) ∈ l
  | (m, k) :: r, n, x, c, h => by
    unfold cellsFrom at h
    by_cases hk : (k == NameKind.cell) = true
    · rw [if_pos hk, cellsFrom_app] at h
      rcases List.mem_append.mp h with h | h
      · exact List.mem_cons_of_mem _ (cellsFrom_mem h)
      · have e : (x, c) = (m, n) := by simpa using h
        cases e
        have : k = .cell := by simpa using hk
        subst this
        exact List.mem_cons_self
    · rw [if_neg hk] at h
      exact List.mem_cons_of_mem _ (cellsFrom_mem h)
theorem cellsFrom_key : ∀ {l : List (Str × NameKind)} {n : Nat} {x : Str}, (x, NameKind.cell) ∈ l → ∃ c, (x, c) ∈ cellsFrom n l []
  | (m, k) :: r, n, x, h => by
    unfold cellsFrom
    rcases List.mem_cons.mp h with e | h
    · cases e
      rw [if_pos (by decide), cellsFrom_app]
      exact ⟨n, List.mem_append_right _ List.mem_cons_self⟩
    · split
      · rw [cellsFrom_app]
        obtain ⟨c, hc⟩ := cellsFrom_key (n := n + 1) h
        exact ⟨c, List.mem_append_left _ hc⟩
      · exact cellsFrom_key h

/-- the context of a comprehension's block -/
def blk (X : Cx) (own fre : List Str) (scope : Scope) (L : Addr) (cells : List (Str × Addr)) (s₀ : Shared) (H₀ : Hp) (ex : List Addr) (pn : List (Addr × Obj)) : Cx where
  prog := X.prog
  w := X.w
  K := X.K
  mg := X.mg
  base := X.base
  A := X.A
  N := own ++ fre
  s₀ := s₀
  H₀ := H₀
  env := compEnvC scope cells L X.env
  outer := X.stack
  stack := X.stack
  ex := ex
  fn := fun x => own.contains x
  calm := X.calm
  pn := pn
  xe := fun _ _ => False
/-- the block's names at a turn's start -/
def bst (own : Nat) (idx : List Nat) (σ : St) : St := List.replicate own none ++ idx.map fun i => (σ[i]?).join
structure BlkOk (X : Cx) (own fre : List Str) (idx : List Nat) (scope : Scope) : Prop where
  kind : scope.kind = .function
  free : (scope.names.all fun x => x.2 != .free || (X.env.kindOf x.1 == some .cell || X.env.kindOf x.1 == some .free)) = true
  loc : (scope.names.all fun x => x.2 != .local || scope.names.lookup x.1 == some .local) = true
  ownB : (scope.names.all fun x => x.2 != .free || !own.contains x.1) = true
  freB : ((fre.zip idx).all fun p => scope.names.lookup p.1 == some .free && X.N[p.2]? == some p.1) = true
  len : fre.length = idx.length
  nd : (scope.names.map (·.1)).Nodup
theorem key_one {l : List (Str × NameKind)} : (l.map (·.1)).Nodup → ∀ {x : Str} {k1 k2 : NameKind}, (x, k1) ∈ l → (x, k2) ∈ l → k1 = k2 := by
  induction l with
  | nil => intro _ x k1 k2 h; exact nomatch h
  | cons p r ih =>
    intro nd x k1 k2 h1 h2
    rw [List.map_cons, List.nodup_cons] at nd
    rcases List.mem_cons.mp h1 with e1 | h1 <;> rcases List.mem_cons.mp h2 with e2 | h2
    · rw [← e1] at e2; cases e2; rfl
    · exact absurd (List.mem_map.mpr ⟨_, h2, by rw [← e1]⟩) nd.1
    · exact absurd (List.mem_map.mpr ⟨_, h1, by rw [← e2]⟩) nd.1
    · exact ih nd.2 h1 h2
section
variable {X : Cx} {own fre : List Str} {idx : List Nat} {scope : Scope} {pins : List (Addr × Obj)} {σ : St} {H : Hp} {s : Shared}
theorem BlkOk.freeC (B : BlkOk X own fre idx scope) {x : Str × NameKind} (hx : x ∈ scope.names) (h : x.2 = .free) : X.env.kindOf x.1 = some .cell ∨ X.env.kindOf x.1 = some .free := by
  have := List.all_eq_true.mp B.free x hx
  rw [h] at this
  simpa using this
theorem BlkOk.cells (B : BlkOk X own fre idx scope) (ok : X.Ok) : ∀ x ∈ scope.names, x.2 = .free → ∃ c, X.env.cells.lookup x.1 = some c := fun x hx h => ok.has x.1 (B.freeC hx h)
theorem mem_of_names {l : List (Str × NameKind)} {x : Str} {k : NameKind} (h : l.lookup x = some k) : (x, k) ∈ l := mem_of_lookup h
def rl (env : Env) (p : Str × NameKind) : Str × NameKind := if (p.2 == NameKind.free && env.scope.kind == .function && env.kindOf p.1 == some .cell) = true then (p.1, NameKind.cell) else p
theorem rl_fst (env : Env) (p : Str × NameKind) : (rl env p).1 = p.1 := by unfold rl; split <;> rfl
theorem rl_snd (env : Env) (p : Str × NameKind) : (rl env p).2 = p.2 ∨ ((rl env p).2 = .cell ∧ p.2 = .free) := by
  unfold rl
  split
  · rename_i hc
    rw [Bool.and_eq_true, Bool.and_eq_true] at hc
    exact .inr ⟨rfl, by simpa using hc.1.1⟩
  · exact .inl rfl
theorem lookup_pair {α : Type} (p : Str × α) (r : List (Str × α)) (x : Str) : (p :: r).lookup x = if (x == p.1) = true then some p.2 else r.lookup x := by
  rw [show p = (p.1, p.2) from rfl, List.lookup_cons]
  cases x == p.1 <;> rfl
theorem relabel_names (scope : Scope) (env : Env) : (relabel scope env).names = scope.names.map (rl env) := rfl
theorem relabel_kind {env : Env} : ∀ {l : List (Str × NameKind)} {x : Str} {k : NameKind}, (l.map (rl env)).lookup x = some k → (l.lookup x = some k ∨ (k = .cell ∧ l.lookup x = some .free))
  | [], x, k, h => by simp at h
  | p :: r, x, k, h => by
    rw [List.map_cons, lookup_pair, rl_fst] at h
    rw [lookup_pair]
    by_cases hx : (x == p.1) = true
    · rw [if_pos hx] at h ⊢
      rcases rl_snd env p with e | ⟨e1, e2⟩
      · rw [e] at h; exact .inl h
      · rw [e1] at h; cases h
        rw [e2]
        exact .inr ⟨rfl, rfl⟩
    · rw [if_neg hx] at h ⊢
      exact relabel_kind h
theorem relabel_free {env : Env} : ∀ {l : List (Str × NameKind)} {x : Str}, l.lookup x = some .free → (l.map (rl env)).lookup x = some .cell ∨ (l.map (rl env)).lookup x = some .free
  | [], x, h => by simp at h
  | p :: r, x, h => by
    rw [lookup_pair] at h
    rw [List.map_cons, lookup_pair, rl_fst]
    by_cases hx : (x == p.1) = true
    · rw [if_pos hx] at h ⊢
      rcases rl_snd env p with e | ⟨e1, e2⟩
      · rw [e]; exact .inr h
      · rw [e1]; exact .inl rfl
    · rw [if_neg hx] at h ⊢
      exact relabel_free h
/-- the cells of the block -/
theorem blk_cell (B : BlkOk X own fre idx scope) (ok : X.Ok) {n : Nat} {x : Str} {c : Addr} (h : (cellsFrom n scope.names (closOf X.env.cells scope.names [])).lookup x = some c) :
    ((x, c) ∈ cellsFrom n scope.names [] ∧ (x, NameKind.cell) ∈ scope.names) ∨ ((x, NameKind.free) ∈ scope.names ∧ X.env.cells.lookup x = some c) := by
  have h1 := mem_of_lookup h
  rw [cellsFrom_app] at h1
  rcases List.mem_append.mp h1 with h1 | h1
  · exact .inl ⟨h1, cellsFrom_mem h1⟩
  · rcases closOf_mem (B.cells ok) h1 with h1 | h1
    · exact nomatch h1
    · exact .inr h1
end

section
variable {prog : Program} {w : World} {A : Around} {E : Value → Shared → Prop} {R : Result → Shared → Prop} {s : Shared}
/-- the block's loop: nothing is raised -/
theorem compLoop_any {elt target iter : Expr} {ifs : List Expr} {scope : Scope} {pos : Pos} {it acc : Value} {env : Env} (I : Nat → Shared → Prop)
    (turn : ∀ n s, I n s → wpAny (model prog w) A (pyNext it) (fun r s₁ => match r with
      | none => R (.ok .next) s₁
      | some v => wpAny (model prog w) A (letOwnedTupleGo target it v) (fun _ s₂ => wpAny (model prog w) A (assign target env v) (fun _ s₃ =>
          wpAny (model prog w) A (forIn ifs true fun c r => if r = true then do let ok ← isTrue c env (eval c env); pure (ForInStep.yield ok) else pure (ForInStep.yield r)) (fun ok s₄ =>
            if ok = true then wpAny (model prog w) A (eval elt env) (fun x s₅ =>
              wpAny (model prog w) A (call (.builtin "list.append") [acc, x]) (fun _ s₆ => ∃ m, m < n ∧ I m s₆) (fun _ _ => False) s₅) (fun _ _ => False) s₄
            else ∃ m, m < n ∧ I m s₄) (fun _ _ => False) s₃) (fun _ _ => False) s₂) (fun _ _ => False) s₁) (fun _ _ => False) s)
    (n : Nat) (h : I n s) :
    codeAny (model prog w) A (.compLoop (.ListComp elt [⟨target, iter, ifs, 0⟩] scope pos) 0 it acc env) R s := by
  refine codeAny_loop rfl I (fun n s hI => ?_) n h
  show wpAny _ A ((compTurn (.ListComp elt [⟨target, iter, ifs, 0⟩] scope pos) 0 it acc env).onRaise (fun x => do noteFrame x env; theTreesLotGoes x)) _ _ s
  refine wpAny_noted ?_
  rw [compTurn_list]
  refine wpAny_bind (wpAny_standAt (wpAny_bind (wpAny_mono (turn n s hI) (fun r s₁ h₁ => ?_) fun _ _ h' => h'.elim)))
  cases r with
  | none => exact wpAny_pure h₁
  | some v =>
    refine wpAny_bind (wpAny_mono h₁ (fun _ s₂ h₂ => ?_) fun _ _ h' => h'.elim)
    refine wpAny_bind (wpAny_mono h₂ (fun _ s₃ h₃ => wpAny_bind (wpAny_mono h₃ (fun ok s₄ h₄ => ?_) fun _ _ h' => h'.elim)) fun _ _ h' => h'.elim)
    cases ok with
    | false => exact wpAny_pure ⟨rfl, h₄⟩
    | true =>
      exact wpAny_bind (wpAny_bind (wpAny_mono h₄ (fun x s₅ h₅ => wpAny_bind (wpAny_mono h₅ (fun _ s₆ h₆ => wpAny_pure (wpAny_pure ⟨rfl, h₆⟩)) fun _ _ h' => h'.elim)) fun _ _ h' => h'.elim))
end

section
variable {X : Cx} {own fre : List Str} {idx : List Nat} {scope : Scope} {pins : List (Addr × Obj)} {σ : St} {H : Hp} {s : Shared}
abbrev bcells (X : Cx) (scope : Scope) (L : Addr) : List (Str × Addr) := cellsFrom (L + 1) scope.names (closOf X.env.cells scope.names [])
abbrev dictO : Obj := { cls := .type "dict", data := .dict #[] }
theorem bst_get {own : Nat} {idx : List Nat} {σ : St} {i : Nat} {v : V} (h : (bst own idx σ)[i]? = some (some v)) : ∃ j k, i = own + j ∧ idx[j]? = some k ∧ σ[k]? = some (some v) := by
  unfold bst at h
  by_cases hi : i < own
  · rw [List.getElem?_append_left (by simpa using hi)] at h
    rw [List.getElem?_replicate] at h
    rw [if_pos hi] at h
    cases h
  · rw [List.getElem?_append_right (by simpa using Nat.le_of_not_lt hi)] at h
    rw [List.length_replicate, List.getElem?_map] at h
    cases e : idx[i - own]? with
    | none => rw [e] at h; cases h
    | some k =>
      rw [e] at h
      refine ⟨i - own, k, by omega, e, ?_⟩
      have h' : some ((σ[k]?).join) = some (some v) := h
      have h2 := Option.some.inj h'
      cases e2 : σ[k]? with
      | none => rw [e2] at h2; cases h2
      | some o => rw [e2] at h2; rw [show o = some v from h2]
/-- the block begins: its frame and cells are laid behind s -/
theorem blk_start (B : BlkOk X own fre idx scope) (I : Inv X pins σ H s) {ex : List Addr} (hex : ∀ b ∈ ex, FpOk X pins H b ∧ b < s.heap.objs.size) :
    Inv (blk X own fre scope s.heap.objs.size (bcells X scope s.heap.objs.size) s H ex (X.pn ++ pins)) [] (bst own.length idx σ) H { s with heap := pushCells (s.heap.push dictO) scope.names } := by
  have ok := I.ok
  have hsz : (s.heap.push dictO).objs.size = s.heap.objs.size + 1 := Heap.size_push ..
  have keep : ∀ b o, s.heap.get? b = some o → (pushCells (s.heap.push dictO) scope.names).get? b = some o := fun b o e => pushCells_keeps _ _ b o (Heap.get?_push_of_some _ e)
  have cok := cellsFrom_ok scope.names (s.heap.push dictO) (s.heap.objs.size + 1) [] ⟨fun _ _ hm => (nomatch hm), List.Pairwise.nil⟩ (by rw [hsz]; exact Nat.le_refl _)
  rw [hsz] at cok
  have freeLt : ∀ x c, X.env.cells.lookup x = some c → c < s.heap.objs.size := fun x c e => let ⟨_, h⟩ := I.cell x c e; h.lt
  have cellC : ∀ x c, (bcells X scope s.heap.objs.size).lookup x = some c → (s.heap.objs.size + 1 ≤ c ∧ (pushCells (s.heap.push dictO) scope.names).IsCell c none ∧ (x, c) ∈ cellsFrom (s.heap.objs.size + 1) scope.names [] ∧ (x, NameKind.cell) ∈ scope.names) ∨ (X.env.cells.lookup x = some c ∧ c < s.heap.objs.size ∧ (x, NameKind.free) ∈ scope.names) := fun x c e => by
    rcases blk_cell B ok e with ⟨h1, h2⟩ | ⟨h1, h2⟩
    · exact .inl ⟨(cok.empty x c h1).2, (cok.empty x c h1).1, h1, h2⟩
    · exact .inr ⟨h2, freeLt x c h2, h1⟩
  have hfs : ∀ b ∈ frs X.stack, b < s.heap.objs.size := fun b hb => by
    rcases List.mem_cons.mp (I.stkSub b hb) with e | hb
    · rw [e]; exact I.lt
    · obtain ⟨_, o, ho, _⟩ := I.ok.funs.mem hb
      exact Nat.lt_of_lt_of_le (Heap.lt_size ho) I.sz
  have OK : (blk X own fre scope s.heap.objs.size (bcells X scope s.heap.objs.size) s H ex (X.pn ++ pins)).Ok := by
    refine ⟨ok.mod, B.kind, ok.glob, ok.blt, Nat.le_refl _, ?_, ?_, ?_, ok.hd, ok.frames, .inl rfl, ?_, fun b o e => I.bs b o e, Nat.le_trans ok.bsz I.sz, ?_, ?_, I.stack, I.stkFree⟩
    · intro x y c e1 e2
      rcases cellC x c e1 with ⟨l1, _, m1, _⟩ | ⟨f1, l1, _⟩ <;> rcases cellC y c e2 with ⟨l2, _, m2, _⟩ | ⟨f2, l2, _⟩
      · exact name_of_addr cok.apart m1 m2
      · exact absurd (Nat.lt_of_lt_of_le l2 (Nat.le_of_succ_le l1)) (Nat.lt_irrefl _)
      · exact absurd (Nat.lt_of_lt_of_le l1 (Nat.le_of_succ_le l2)) (Nat.lt_irrefl _)
      · exact ok.inj x y c f1 f2
    · intro x hk
      have hk' : (relabel scope X.env).names.lookup x = some .cell ∨ (relabel scope X.env).names.lookup x = some .free := hk
      have hor : (x, NameKind.cell) ∈ scope.names ∨ (x, NameKind.free) ∈ scope.names := by
        rcases hk' with h | h
        · rcases relabel_kind h with h | ⟨_, h⟩
          · exact .inl (mem_of_lookup h)
          · exact .inr (mem_of_lookup h)
        · rcases relabel_kind h with h | ⟨h, _⟩
          · exact .inr (mem_of_lookup h)
          · cases h
      refine lookup_some_of_key ?_
      show ∃ c, (x, c) ∈ cellsFrom (s.heap.objs.size + 1) scope.names (closOf X.env.cells scope.names [])
      rw [cellsFrom_app]
      rcases hor with h | h
      · obtain ⟨c, hc⟩ := cellsFrom_key (n := s.heap.objs.size + 1) h
        exact ⟨c, List.mem_append_left _ hc⟩
      · obtain ⟨c, hc⟩ := closOf_key (cells := X.env.cells) (acc := []) h
        exact ⟨c, List.mem_append_right _ hc⟩
    · intro x c hf e
      rcases cellC x c e with ⟨l1, _⟩ | ⟨_, _, m1⟩
      · show s.heap.objs.size ≤ c
        omega
      · have := List.all_eq_true.mp B.ownB _ m1
        have hf' : own.contains x = true := hf
        rw [hf'] at this
        simp at this
    · intro b hb
      obtain ⟨⟨_, _, _, _, f4, _⟩, hlt⟩ := hex b hb
      refine ⟨Nat.ne_of_lt hlt, fun x c e => ?_⟩
      rcases cellC x c e with ⟨l1, _⟩ | ⟨f1, _, _⟩
      · exact Ne.symm (Nat.ne_of_lt (Nat.lt_of_lt_of_le hlt (Nat.le_of_succ_le l1)))
      · exact f4 x c f1
    · intro b o e hb
      obtain ⟨⟨_, _, _, f3, _, _⟩, _⟩ := hex b hb
      rcases f3 with f3 | f3
      · exact ok.noex b o e f3
      · exact absurd (Heap.lt_size (ok.bs b o e).1) (Nat.not_lt.mpr f3)
    · intro b hb hm
      obtain ⟨⟨_, f1, f2, _⟩, _⟩ := hex b hb
      rcases List.mem_cons.mp (I.stkSub b hm) with e | hm
      · exact f1 e
      · exact f2 hm
  refine ⟨OK, rfl, I.bare, Un.kept keep, ?_, ?_, I.fresh, ?_, ?_, I.hok.kept keep, ?_⟩
  · refine ⟨fun _ => none, (Heap.Ns.new s.heap (.type "dict")).keeps (pushCells_keeps _ _), fun i x v e1 e2 e3 => ?_⟩
    obtain ⟨j, k, rfl, hj, hk⟩ := bst_get e2
    have e1' : (own ++ fre)[own.length + j]? = some x := e1
    rw [List.getElem?_append_right (Nat.le_add_right _ _), Nat.add_sub_cancel_left] at e1'
    have hz : (x, k) ∈ fre.zip idx := by
      refine List.mem_iff_getElem?.mpr ⟨j, ?_⟩
      rw [List.getElem?_zip_eq_some]
      exact ⟨e1', hj⟩
    have hq := List.all_eq_true.mp B.freB _ hz
    rw [Bool.and_eq_true] at hq
    have q1 : scope.names.lookup x = some .free := by simpa using hq.1
    have q2 : X.N[k]? = some x := by simpa using hq.2
    have kin := B.freeC (mem_of_lookup q1) rfl
    have vis : Vis X.env.scope x := .inr kin
    obtain ⟨m, hn, hl⟩ := I.loc
    obtain ⟨u, r, look⟩ := hl k x v q2 hk vis
    refine ⟨u, r, ?_⟩
    obtain ⟨c, hc, hcell⟩ : ∃ c, X.env.cells.lookup x = some c ∧ s.heap.IsCell c (some u) := by
      rcases look with ⟨hk1, _⟩ | ⟨_, c, e, z⟩
      · rcases kin with h | h <;> (rw [hk1] at h; cases h)
      · exact ⟨c, e, z⟩
    refine .inr ⟨relabel_free q1, c, ?_, hcell.keeps keep⟩
    have hl2 : ∃ c', (bcells X scope s.heap.objs.size).lookup x = some c' := by
      refine lookup_some_of_key ?_
      show ∃ c, (x, c) ∈ cellsFrom (s.heap.objs.size + 1) scope.names (closOf X.env.cells scope.names [])
      rw [cellsFrom_app]
      obtain ⟨c, hc⟩ := closOf_key (cells := X.env.cells) (acc := []) (mem_of_lookup q1)
      exact ⟨c, List.mem_append_right _ hc⟩
    obtain ⟨c', hc'⟩ := hl2
    rcases blk_cell B ok hc' with ⟨_, h2⟩ | ⟨_, h2⟩
    · exact nomatch key_one B.nd h2 (mem_of_lookup q1)
    · rw [hc] at h2
      cases h2
      exact hc'
  · intro x c e
    rcases cellC x c e with ⟨_, h, _⟩ | ⟨h, _, _⟩
    · exact ⟨none, h⟩
    · obtain ⟨v, z⟩ := I.cell x c h
      exact ⟨v, z.keeps keep⟩
  · intro x c e
    rcases cellC x c e with ⟨l, _⟩ | ⟨h, _, _⟩
    · exact I.hok.fresh (by omega)
    · exact I.freeC x c h
  · intro p hp
    rw [List.append_nil] at hp
    obtain ⟨h1, h2, h3, h4, h5⟩ := I.pin p hp
    refine ⟨keep _ _ h1, h2, Nat.ne_of_lt (Heap.lt_size h1), fun hm => ?_, h5⟩
    rcases List.mem_cons.mp (I.stkSub p.1 hm) with e | hm
    · exact h3 e
    · exact h4 hm
  · show (bst own.length idx σ).length = (own ++ fre).length
    unfold bst
    rw [List.length_append, List.length_replicate, List.length_map, List.length_append, B.len]

/-- behind the block: the list is the body's own -/
theorem blk_end {L D : Addr} {cells : List (Str × Addr)} {s₀ s' : Shared} {H₀ H' : Hp} {fp : List Addr} {pl : List (Addr × Obj)} {σb : St} {ys : List V} {its : List Value} {n : Nat} (I : Inv X pins σ H₀ s₀) (I' : Inv (blk X own fre scope L cells s₀ H₀ (D :: fp) (X.pn ++ pins)) pl σb H' s')
    (hfp : ∀ b ∈ fp, FpOk X pins H₀ b) (hD : FpOk X pins H₀ D) (hD' : H' D = none) (hv : Vals ys its) (hz : ys.length ≤ sizeLine) (e : s'.heap.get? D = some { cls := .type "list", data := .seq its.toArray n }) :
    Inv X pins σ (upd H' D (.lst ys)) s' := by
  have u := I'.base
  have nD : H₀ D = none := hD.1
  refine I.call' (ch := D :: fp) (H' := upd H' D (.lst ys)) I'.os ⟨u.keep, u.slot, fun b o h1 h2 h3 => ?_, u.there, fun b xs h => ?_, fun b o v h => ?_, fun b ps h => ?_⟩ (fun b o h => ?_) I'.bare fun b hb => ?_
  · rw [upd_ne (fun z => h3 (by rw [z]; exact List.mem_cons_self))]
    exact u.free b o h1 h2 h3
  · rw [upd_ne (ne_of_none h nD)]; exact u.tups b xs h
  · rw [upd_ne (ne_of_none h nD)]; exact u.frzs b o v h
  · rw [upd_ne (ne_of_none h nD)]; exact u.tbls b ps h
  · by_cases hb : b = D
    · subst hb
      rw [upd_same] at h
      cases h
      exact ⟨hz, its, n, hv, e⟩
    · rw [upd_ne hb] at h
      exact (I'.hok b o h).stay (fun c v _ q => q) (fun c q => by rw [upd_ne (ne_of_none q hD')]; exact q) fun c xs q => by rw [upd_ne (ne_of_none q hD')]; exact q
  · rcases List.mem_cons.mp hb with rfl | hb
    · obtain ⟨_, f1, _, f3, f4, f5⟩ := hD
      exact ⟨f3, f1, f4, f5⟩
    · obtain ⟨_, f1, _, f3, f4, f5⟩ := hfp b hb
      exact ⟨f3, f1, f4, f5⟩

/-- a target that stores into the first k names alone -/
def GOwn (k : Nat) (g : TG) : Prop := ∀ v σ H Q, g v σ H Q → g v σ H fun σ' H' => Q σ' H' ∧ σ'.drop k = σ.drop k ∧ σ'.length = σ.length
def GOwns (k : Nat) (g : TGs) : Prop := ∀ v σ H Q, g v σ H Q → g v σ H fun σ' H' => Q σ' H' ∧ σ'.drop k = σ.drop k ∧ σ'.length = σ.length
theorem gown_name {k i : Nat} (h : i < k) : GOwn k (gName i) := fun v σ H Q q => ⟨q, by rw [List.drop_set_of_lt h], List.length_set⟩
theorem gowns_nil {k : Nat} : GOwns k gNil := fun v σ H Q ⟨e, q⟩ => ⟨e, q, rfl, rfl⟩
theorem gowns_cons {k : Nat} {t : TG} {u : TGs} (ht : GOwn k t) (hm : ∀ v σ H Q Q', (∀ σ' H', Q σ' H' → Q' σ' H') → t v σ H Q → t v σ H Q') (hu : GOwns k u) : GOwns k (gCons t u) := fun vs σ H Q ⟨v, r, e, q⟩ =>
  ⟨v, r, e, hm _ _ _ _ _ (fun σ' H' ⟨q1, q2, q3⟩ => by
    have q4 := hu _ _ _ _ q1
    rw [q2, q3] at q4
    exact q4) (ht _ _ _ _ q)⟩
theorem gmono_name {i : Nat} : ∀ v σ H (Q Q' : St → Hp → Prop), (∀ σ' H', Q σ' H' → Q' σ' H') → gName i v σ H Q → gName i v σ H Q' := fun _ _ _ _ _ h q => h _ _ q
theorem gown_tup {K : PySem.W.Frag} {k n : Nat} {t : TGs} (h : GOwns k t) : GOwn k (gTup K n t) := fun v σ H Q ⟨a, xs, e, h1, h2, q⟩ => ⟨a, xs, e, h1, h2, h _ _ _ _ q⟩
theorem bst_len {own : Nat} {idx : List Nat} {σ : St} : (bst own idx σ).length = own + idx.length := by
  unfold bst
  rw [List.length_append, List.length_replicate, List.length_map]
theorem bst_back {own : Nat} {idx : List Nat} {σ σ' : St} (hd : σ'.drop own = (bst own idx σ).drop own) (i : Nat) (v : V) (h : (bst own idx σ)[i]? = some (some v)) : σ'[i]? = some (some v) := by
  obtain ⟨j, k, rfl, _, _⟩ := bst_get h
  rw [← List.getElem?_drop, hd, List.getElem?_drop]
  exact h
/-- a comprehension: W the invariant by the turn, a measure, what was gathered, the heap -/
def tCompW (own : Nat) (idx : List Nat) (wi : TI) (g : TG) (tt : TT) (te : TE) (R : List V → Hp → Prop) : St → Hp → Prop := fun σ H => wi σ H fun J H1 => ∃ W : Nat → Nat → List V → Hp → Prop, (∃ m, W 0 m [] H1) ∧ ∀ i m ys H, W i m ys H →
  (J.stop i H ∧ ys.length ≤ sizeLine ∧ R ys H) ∨
  (J.go i H ∧ ys.length < sizeLine ∧ ∀ x H', J.yld i H x H' → g x (bst own idx σ) H' fun σ2 H2 => tt σ2 H2 fun b H3 => if b = true then te σ2 H3 fun y H4 => ∃ m', m' < m ∧ W (i + 1) m' (ys ++ [y]) H4 else ∃ m', m' < m ∧ W (i + 1) m' ys H3)
/-- every test of the comprehension -/
def PTs (Y : Cx) (ifs : List Expr) (t : TT) : Prop := ∀ (pins : List (Addr × Obj)) (s : Shared) (σ : St) (H : Hp) (Q : Bool → Hp → Prop), Inv Y pins σ H s → t σ H Q →
  wpAny (model Y.prog Y.w) Y.A (forIn ifs true fun c r => if r = true then do let ok ← isTrue c Y.env (eval c Y.env); pure (ForInStep.yield ok) else pure (ForInStep.yield r)) (TP Y pins σ Q) Y.xe s
def tTrue : TT := fun _ H Q => Q true H
theorem pts_nil {Y : Cx} : PTs Y [] tTrue := fun pins s σ H Q I h => wpAny_tests_nil ⟨H, I, h⟩
theorem pts_one {Y : Cx} {c : Expr} {t : TT} (h : PT Y c t) : PTs Y [c] t := fun pins s σ H Q I hq => wpAny_tests_one (h pins s σ H Q I hq)

theorem comp_run {elt tg iter : Expr} {ifs : List Expr} {pos : Pos} {wi : TI} {g : TG} {tt : TT} {te : TE} {use : Option (Value → Sem Unit)} {R : List V → Hp → Prop} {Q : Value → Shared → Prop} (B : BlkOk X own fre idx scope) (hc : X.calm = true) (hi : PI X tg iter wi) (hg : GOwn own.length g)
    (hb : ∀ (L : Addr) (cells : List (Str × Addr)) (s₀ : Shared) (H₀ : Hp) (ex : List Addr) (pn : List (Addr × Obj)), PG (blk X own fre scope L cells s₀ H₀ ex pn) tg g ∧ PTs (blk X own fre scope L cells s₀ H₀ ex pn) ifs tt ∧ PE (blk X own fre scope L cells s₀ H₀ ex pn) elt te)
    (hs : ∀ x, foldedSetIterable iter X.env x = pure x) (I : Inv X pins σ H s) (h : tCompW own.length idx wi g tt te R σ H)
    (hq : ∀ (ys : List V) (H' : Hp) (s' : Shared) (L D : Addr) (m : Str → Option Value), R ys H' → H' D = none → Inv X pins σ (upd H' D (.lst ys)) s' → s'.heap.Ns L m → upd H' D (.lst ys) L = none → FpOk X pins (upd H' D (.lst ys)) L →
      compPost (model X.prog X.w) X.A X.xe use Q (.ref D) L (.ok .next) s') :
    wpAny (model X.prog X.w) X.A (comprehension (.ListComp elt [⟨tg, iter, ifs, 0⟩] scope pos) scope X.env (firstIterPos [⟨tg, iter, ifs, 0⟩] pos) (newList []) false (eval iter X.env) use) Q X.xe s := by
  have hnames : ∀ x ∈ scope.names, x.2 = .local → scope.names.lookup x.1 = some .local := fun x hx hl => by
    have := List.all_eq_true.mp B.loc x hx
    rw [hl] at this
    simpa using this
  refine wpAny_comprehension_free (use := use) rfl hs (closureFor_eq (B.cells I.ok)) B.kind hnames (wpAny_mono (hi pins s σ H _ I h) (fun v s1 h1 => wpAny_mono h1 (fun itv s2 h2 => ?_) fun _ _ e => e) fun _ _ e => e)
  obtain ⟨it, fp, tn, J, H2, rfl, I2, T, st2, f2, W, ⟨m0, w0⟩, turn⟩ := h2
  refine wpAny_newObj_type ?_
  generalize hs3 : ({ s2 with heap := s2.heap.push { cls := .type "list", dict := none, data := .seq ([] : List Value).toArray } } : Shared) = s3
  have hD3 : s3.heap.get? s2.heap.objs.size = some { cls := .type "list", data := .seq ([] : List Value).toArray 0 } := by rw [← hs3]; exact Heap.get?_push_size _ rfl
  have keep23 : ∀ b o, s2.heap.get? b = some o → s3.heap.get? b = some o := fun b o e => by rw [← hs3]; exact Heap.get?_push_of_some _ e
  have I3 : Inv X pins σ H2 s3 := by rw [← hs3]; exact I2.kept (t' := s2.toks) fun b o e => Heap.get?_push_of_some _ e
  have sz3 : s3.heap.objs.size = s2.heap.objs.size + 1 := by rw [← hs3]; exact Heap.size_push ..
  generalize hD : s2.heap.objs.size = D at *
  have nD : H2 D = none := by rw [← hD]; exact I2.fresh
  have okD : FpOk X pins H2 D := I2.fpOk (by rw [hD]; exact Nat.le_refl _) nD
  have ltfp : ∀ b ∈ fp, b < D := fun b hb => by
    obtain ⟨o, ho, _⟩ := T.obj _ _ st2 b hb
    rw [← hD]; exact Heap.lt_size ho
  -- the block's frame
  simp only [newFunctionEnv, Option.isSome_some, if_true]
  refine wpAny_bind (wpAny_alloc ?_)
  refine wpAny_bind (wpAny_layCells _ (fun name kind cells => by cases hkc : kind == NameKind.cell <;> simp [hkc]) _ _ _ _ ?_)
  refine wpAny_bind (wpAny_pure (wpAny_pure ?_))
  have hL1 : (s3.heap.push dictO).objs.size = s3.heap.objs.size + 1 := Heap.size_push ..
  have I4 := blk_start (ex := D :: fp) B I3 (fun b hb => by
    rcases List.mem_cons.mp hb with rfl | hb
    · exact ⟨okD, by rw [sz3]; exact Nat.lt_succ_self _⟩
    · exact ⟨f2 b hb, by rw [sz3]; exact Nat.lt_succ_of_lt (ltfp b hb)⟩)
  generalize hs4 : ({ s3 with heap := pushCells (s3.heap.push dictO) scope.names } : Shared) = s4 at I4
  have keep34 : ∀ b o, s3.heap.get? b = some o → s4.heap.get? b = some o := fun b o e => by rw [← hs4]; exact pushCells_keeps _ _ b o (Heap.get?_push_of_some _ e)
  generalize hY : blk X own fre scope s3.heap.objs.size (bcells X scope s3.heap.objs.size) s3 H2 (D :: fp) (X.pn ++ pins) = Y at I4
  have YA : Y.A = X.A := by rw [← hY]; rfl
  have Yp : Y.prog = X.prog := by rw [← hY]; rfl
  have Yw : Y.w = X.w := by rw [← hY]; rfl
  have YK : Y.K = X.K := by rw [← hY]; rfl
  have Yc : Y.calm = true := by rw [← hY]; exact hc
  have Yx : Y.xe = fun _ _ => False := by rw [← hY]; rfl
  have Yex : Y.ex = D :: fp := by rw [← hY]; rfl
  have Ypn : Y.pn = X.pn ++ pins := by rw [← hY]; rfl
  have YL : Y.env.locals = s3.heap.objs.size := by rw [← hY]; rfl
  have hbY : PG Y tg g ∧ PTs Y ifs tt ∧ PE Y elt te := by rw [← hY]; exact hb ..
  have nDY : D ≠ Y.env.locals := by rw [YL, sz3]; exact Nat.ne_of_lt (Nat.lt_succ_self _)
  have okY := I4.ok
  have fsD : D ∉ Y.fs := okY.exfs D (by rw [Yex]; exact List.mem_cons_self)
  have pnD : ∀ p ∈ Y.pn, p.1 ≠ D := by rw [Ypn]; exact okD.2.2.2.2.2
  have FO : ∀ {H' : Hp} {o : Obj}, (∀ b ∈ fp, H' b = none) → ∀ b ∈ fp, FpOk Y [(D, o)] H' b := fun {H' o} hn b hb => by
    have m : b ∈ Y.ex := by rw [Yex]; exact List.mem_cons_of_mem _ hb
    refine ⟨hn b hb, (okY.exf b m).1, okY.exfs b m, .inl m, (okY.exf b m).2, fun p hp => ?_⟩
    rcases List.mem_append.mp hp with hp | hp
    · rw [Ypn] at hp
      exact (f2 b hb).2.2.2.2.2 p hp
    · have e : p = (D, o) := by simpa using hp
      rw [e]
      exact Ne.symm (Nat.ne_of_lt (ltfp b hb))
  have pinD : ∀ {pl : List (Addr × Obj)} {σ' : St} {H' : Hp} {s' : Shared} {o : Obj}, Inv Y pl σ' H' s' → s'.heap.get? D = some o → H' D = none → (∀ v, o.data ≠ .cell v) → Inv Y [(D, o)] σ' H' s' := fun {pl σ' H' s' o} I' e hn hd => I'.pins_of fun p hp => by
    have e' : p = (D, o) := by simpa using hp
    subst e'
    exact ⟨e, hn, nDY, fsD, hd⟩
  have loop : codeAny (model X.prog X.w) X.A (.compLoop (.ListComp elt [⟨tg, iter, ifs, 0⟩] scope pos) 0 (.ref it) (.ref D) Y.env) (compPost (model X.prog X.w) X.A X.xe use Q (.ref D) s3.heap.objs.size) s4 := by
    refine compLoop_any (fun n s' => ∃ i ys its k H', Inv Y [(D, ({ cls := .type "list", data := .seq (its : List Value).toArray k } : Obj))] (bst own.length idx σ) H' s' ∧ tn i s'.heap ∧ (∀ b ∈ fp, H' b = none) ∧ Vals ys its ∧ ys.length ≤ sizeLine ∧ W i n ys H') ?_ m0
      ⟨0, [], [], 0, H2, pinD I4 (keep34 _ _ hD3) nD (fun v z => nomatch z), T.keep _ _ _ st2 fun b _ o e => keep34 _ _ (keep23 _ _ e), fun b hb => (f2 b hb).1, .nil, Nat.zero_le _, w0⟩
    rintro n s' ⟨i, ys, its, k, H', I', st', fr', hv, hz, w'⟩
    have pD := I'.pin _ (List.mem_append_right _ List.mem_cons_self)
    rcases turn i n ys H' w' with ⟨stop, hl, hR⟩ | ⟨go, hl, step⟩
    · have z := T.done Y Yp Yw YK Yc i _ s' _ H' (fun _ _ => False) I' (FO fr') st' stop
      rw [YA] at z
      refine thn z fun r s5 ⟨hr, I5⟩ => ?_
      subst hr
      have pD5 := I5.pin _ (List.mem_append_right _ List.mem_cons_self)
      have I5' := I5
      rw [← hY] at I5'
      have E := blk_end I3 I5' (fun b hb => f2 b hb) okD pD5.2.1 hv hl pD5.1
      obtain ⟨m5, hm5, _⟩ := I5.loc
      rw [YL] at hm5
      have nL : H' s3.heap.objs.size = none := by rw [← YL]; exact I5.free
      have nL' : upd H' D (.lst ys) s3.heap.objs.size = none := by rw [upd_ne (by rw [← YL]; exact Ne.symm nDY)]; exact nL
      exact hq ys H' s5 _ D m5 hR pD5.2.1 E hm5 nL' (I3.fpOk (Nat.le_refl _) nL')
    · have z := T.item Y Yp Yw YK Yc i _ s' _ H' (fun _ _ => False) I' (FO fr') st' go
      rw [YA] at z
      refine thn z fun r s5 ⟨u, hr, h5⟩ => ?_
      subst hr
      refine thn h5 fun _ s6 ⟨x, H6, I6, r6, y6, st6, fr6⟩ => ?_
      have I6' := I6.pinned (FO fr6) (T.obj _ _ st6)
      have z7 := hbY.1 _ s6 _ H6 x u _ I6' r6 (hg _ _ _ _ (step x H6 y6))
      rw [Yp, Yw, YA, Yx] at z7
      refine thn z7 fun _ s7 ⟨σ7, H7, I7, q7, d7, l7⟩ => ?_
      have z8 := hbY.2.1 _ s7 σ7 H7 _ I7 q7
      rw [Yp, Yw, YA, Yx] at z8
      refine thn z8 fun ok s8 ⟨H8, I8, q8⟩ => ?_
      have tnK : ∀ {σ9 : St} {H9 : Hp} {s9 : Shared}, Inv Y ([(D, ({ cls := .type "list", data := .seq its.toArray k } : Obj))] ++ pinsAt fp s6.heap) σ9 H9 s9 → tn (i + 1) s9.heap ∧ ∀ b ∈ fp, H9 b = none := fun I9 =>
        ⟨T.keep _ _ _ st6 fun b hb o e => (I9.pin (b, o) (List.mem_append_right _ (List.mem_append_right _ (mem_pinsAt hb e)))).1, fun b hb => by
          obtain ⟨o, e, d⟩ := T.obj _ _ st6 b hb
          exact (I9.pin (b, o) (List.mem_append_right _ (List.mem_append_right _ (mem_pinsAt hb e)))).2.1⟩
      cases ok with
      | false =>
        rw [if_neg Bool.false_ne_true] at q8 ⊢
        obtain ⟨m', hm, w8⟩ := q8
        obtain ⟨t8, n8⟩ := tnK I8
        exact ⟨m', hm, i + 1, ys, its, k, H8, I8.unpinned.weak l7.symm (bst_back d7), t8, n8, hv, hz, w8⟩
      | true =>
        rw [if_pos rfl] at q8 ⊢
        have z9 := hbY.2.2 _ s8 σ7 H8 _ I8 q8
        rw [Yp, Yw, YA, Yx] at z9
        refine thn z9 fun y s9 ⟨v9, H9, I9, r9, m', hm, w9⟩ => ?_
        obtain ⟨t9, n9⟩ := tnK I9
        have pD9 := I9.pin (D, { cls := .type "list", data := .seq its.toArray k }) (List.mem_append_right _ (List.mem_append_left _ List.mem_cons_self))
        refine append_at pD9.1 (fun h10 sb hD10 => ?_) (by rw [List.size_toArray, ← hv.length]; exact Nat.le_of_lt hl)
        have I9a : Inv Y [] σ7 H9 s9 := I9.pins_of fun p hp => nomatch hp
        have I10 : Inv Y [] σ7 H9 { s9 with heap := h10 } := I9a.turned (t' := s9.toks) (it := D) (fun b o hb e => sb.extBut b o hb e) pD9.2.1 nDY (.inl (by rw [Yex]; exact List.mem_cons_self)) (okY.exf D (by rw [Yex]; exact List.mem_cons_self)).2 (fun p hp => by
          rw [List.append_nil] at hp
          exact pnD p hp)
        refine ⟨m', hm, i + 1, ys ++ [v9], its ++ [y], k + 1, H9, pinD (I10.weak l7.symm (bst_back d7)) ?_ pD9.2.1 (fun v z => nomatch z), ?_, n9, hv.append (.cons r9 .nil), ?_, w9⟩
        · show h10.get? D = _
          rw [hD10, List.push_toArray]
        · exact T.keep _ _ _ t9 fun b hb o e => sb.extBut b o (Nat.ne_of_lt (ltfp b hb)) e
        · rw [List.length_append, List.length_singleton]; exact hl
  have goal : codeAny (model X.prog X.w) X.A (.compStart (.ListComp elt [⟨tg, iter, ifs, 0⟩] scope pos) 0 (.ref it) (.ref D) Y.env) (compPost (model X.prog X.w) X.A X.xe use Q (.ref D) s3.heap.objs.size) s4 :=
    codeAny_compStart_list loop (T.self X.A 0 s4 _ _ (T.keep _ _ _ st2 fun b _ o e => keep34 _ _ (keep23 _ _ e)) loop)
  rw [← hY] at goal
  have hsz : ({ s3 with heap := s3.heap.push { cls := .type "dict", data := .dict #[] } } : Shared).heap.objs.size = s3.heap.objs.size + 1 := Heap.size_push ..
  rw [hsz]
  first
    | exact goal
    | (rw [← hs4] at goal; exact goal)
end
/-- a list comprehension as a value -/
def tComp (own : Nat) (idx : List Nat) (wi : TI) (g : TG) (tt : TT) (te : TE) : TE := fun σ H Q => tCompW own idx wi g tt te (fun ys H' => ∀ p, H' p = none → Q (.ref p) (upd H' p (.lst ys))) σ H
section
variable {X : Cx} {scope : Scope}
theorem pe_comp {elt tg iter : Expr} {ifs : List Expr} {pos : Pos} {wi : TI} {g : TG} {tt : TT} {te : TE} (own fre : List Str) (idx : List Nat) (B : BlkOk X own fre idx scope) (hc : X.calm = true) (hi : PI X tg iter wi) (hg : GOwn own.length g)
    (hb : ∀ (L : Addr) (cells : List (Str × Addr)) (s₀ : Shared) (H₀ : Hp) (ex : List Addr) (pn : List (Addr × Obj)), PG (blk X own fre scope L cells s₀ H₀ ex pn) tg g ∧ PTs (blk X own fre scope L cells s₀ H₀ ex pn) ifs tt ∧ PE (blk X own fre scope L cells s₀ H₀ ex pn) elt te)
    (hs : ∀ x, foldedSetIterable iter X.env x = pure x := by intro _; rfl) : PE X (.ListComp elt [⟨tg, iter, ifs, 0⟩] scope pos) (tComp own.length idx wi g tt te) := by
  intro pins s σ H Q I h
  rw [eval_ListComp]
  refine comp_run (use := none) B hc hi hg hb hs I h fun ys H' s' L D m hR hD I' hn nL fL => ?_
  refine ⟨m, hn, fun h' hs' => ?_⟩
  obtain ⟨f0, f1, f2, f3, f4, f5⟩ := fL
  exact ⟨.ref D, _, I'.turned (t' := s'.toks) (it := L) (fun b o hb e => hs'.extBut b o hb e) f0 f1 f3 f4 f5, rfl, hR D hD⟩
/-- name = a comprehension (the name local, no cell): stored ahead of the block's end -/
def tAsgC (own : Nat) (idx : List Nat) (wi : TI) (g : TG) (tt : TT) (te : TE) (i : Nat) : TS := fun D σ H => tCompW own idx wi g tt te (fun ys H' => ∀ p, H' p = none → D.nx (σ.set i (some (.ref p))) (upd H' p (.lst ys))) σ H
theorem ps_setC {elt tg iter : Expr} {ifs : List Expr} {pos pos' spos : Pos} {wi : TI} {g : TG} {tt : TT} {te : TE} {i : Nat} {x : Str} (hN : X.N.Nodup) (hi' : X.N[i]? = some x) (hx : X.env.scope.names.lookup x = some .local) (own fre : List Str) (idx : List Nat) (B : BlkOk X own fre idx scope) (hc : X.calm = true) (hi : PI X tg iter wi) (hg : GOwn own.length g)
    (hb : ∀ (L : Addr) (cells : List (Str × Addr)) (s₀ : Shared) (H₀ : Hp) (ex : List Addr) (pn : List (Addr × Obj)), PG (blk X own fre scope L cells s₀ H₀ ex pn) tg g ∧ PTs (blk X own fre scope L cells s₀ H₀ ex pn) ifs tt ∧ PE (blk X own fre scope L cells s₀ H₀ ex pn) elt te)
    (hsw : swapsWith (.ListComp elt [⟨tg, iter, ifs, 0⟩] scope pos) (some (.Name x pos')) spos.line X.env = pure true := by rfl)
    (hs : ∀ x, foldedSetIterable iter X.env x = pure x := by intro _; rfl) : PS X (.Assign [.Name x pos'] (.ListComp elt [⟨tg, iter, ifs, 0⟩] scope pos) spos) (tAsgC own.length idx wi g tt te i) := by
  intro pins s σ H D I h
  rw [exec_Assign_Name_used _ _ _ _ hsw]
  refine wpAny_bind (wpAny_standAt (wpAny_bind ?_))
  show wpAny _ X.A (do let _ ← comprehension (.ListComp elt [⟨tg, iter, ifs, 0⟩] scope pos) scope X.env _ (newList []) false (eval iter X.env) (some (assign (.Name x pos') X.env))) _ _ s
  refine wpAny_bind (wpAny_mono (comp_run (use := some (assign (.Name x pos') X.env)) (Q := fun _ s' => SP X pins D .next s') B hc hi hg hb hs I h fun ys H' s' L Da m hR hD I' hn nL fL => ?_) (fun _ s' hq => wpAny_pure (wpAny_pure hq)) fun _ _ e => e)
  obtain ⟨f0, f1, f2, f3, f4, f5⟩ := fL
  show wpAny _ X.A (assign (.Name x pos') X.env (.ref Da)) _ _ _
  refine wpAny_assign_Name (store_ok2 I' hN hi' (.inl hx) (show RelV (.ref Da) (.ref Da) from rfl) (fun s2 I2 ⟨a, sb, ha⟩ => ?_) (.inr hx))
  have hLa : L ≠ a := by
    rcases ha with rfl | ha
    · exact f1
    · exact Ne.symm (f4 x a ha)
  refine ⟨m, hn.sameBut sb hLa, fun h' hs' => ?_⟩
  exact ⟨_, _, I2.turned (t' := s2.toks) (it := L) (fun b o hb e => hs'.extBut b o hb e) f0 f1 f3 f4 f5, hR Da hD⟩
end
end L2

namespace L2
open PySem PySem.Spec PyProof.Rows
/-! ### data in the abstract heap -/
mutual
def Rp (H : Hp) : PyData → V → Prop
  | .none, v => v = .non
  | .bool b, v => v = .bl b
  | .int i, v => v = .int i
  | .str x, v => v = .str x
  | .list ds, v => ∃ a xs, v = .ref a ∧ H a = some (.lst xs) ∧ Rps H ds xs
  | .tuple ds, v => ∃ a xs, v = .ref a ∧ H a = some (.tup xs) ∧ Rps H ds xs
  | .dict _, _ => False
def Rps (H : Hp) : List PyData → List V → Prop
  | [], xs => xs = []
  | d :: ds, xs => ∃ x r, xs = x :: r ∧ Rp H d x ∧ Rps H ds r
end
mutual
theorem Rp.mono {H H' : Hp} (g : Same H H') : ∀ (d : PyData) (v : V), Rp H d v → Rp H' d v
  | .none, _, h => by simpa only [Rp] using h
  | .bool _, _, h => by simpa only [Rp] using h
  | .int _, _, h => by simpa only [Rp] using h
  | .str _, _, h => by simpa only [Rp] using h
  | .list ds, v, h => by
    simp only [Rp] at h ⊢
    obtain ⟨a, xs, e, h1, h2⟩ := h
    exact ⟨a, xs, e, g _ _ h1, Rps.mono g ds xs h2⟩
  | .tuple ds, v, h => by
    simp only [Rp] at h ⊢
    obtain ⟨a, xs, e, h1, h2⟩ := h
    exact ⟨a, xs, e, g _ _ h1, Rps.mono g ds xs h2⟩
  | .dict _, _, h => by simp only [Rp] at h
theorem Rps.mono {H H' : Hp} (g : Same H H') : ∀ (ds : List PyData) (xs : List V), Rps H ds xs → Rps H' ds xs
  | [], xs, h => by simpa only [Rps] using h
  | d :: ds, xs, h => by
    simp only [Rps] at h ⊢
    obtain ⟨x, r, e, h1, h2⟩ := h
    exact ⟨x, r, e, Rp.mono g d x h1, Rps.mono g ds r h2⟩
end
section
variable {X : Cx} {pins : List (Addr × Obj)} {σ : St} {H : Hp} {s : Shared}
mutual
theorem Rp.reads (I : Inv X pins σ H s) : ∀ (d : PyData) (v : V) (u : Value), Rp H d v → RelV v u → ∃ as, Reads s.heap u d as
  | .none, v, u, h, r => by
    simp only [Rp] at h
    subst h
    cases (show u = Value.none from r)
    exact ⟨_, .none⟩
  | .bool b, v, u, h, r => by
    simp only [Rp] at h
    subst h
    cases (show u = Value.bool b from r)
    exact ⟨_, .bool b⟩
  | .int i, v, u, h, r => by
    simp only [Rp] at h
    subst h
    obtain ⟨t, e⟩ := (show ∃ t, u = Value.int i t from r)
    subst e
    exact ⟨_, .int i t⟩
  | .str x, v, u, h, r => by
    simp only [Rp] at h
    subst h
    obtain ⟨t, e⟩ := (show ∃ t, u = Value.str x t from r)
    subst e
    exact ⟨_, .str x t⟩
  | .list ds, v, u, h, r => by
    simp only [Rp] at h
    obtain ⟨a, xs, e, h1, h2⟩ := h
    subst e
    cases (show u = Value.ref a from r)
    obtain ⟨_, its, n, hv, hg⟩ := (show ObjOk X.prog X.w H s.heap a (.lst xs) from I.hok a _ h1)
    obtain ⟨as, q⟩ := Rps.reads I ds xs its h2 hv
    exact ⟨_, .list hg rfl rfl q⟩
  | .tuple ds, v, u, h, r => by
    simp only [Rp] at h
    obtain ⟨a, xs, e, h1, h2⟩ := h
    subst e
    cases (show u = Value.ref a from r)
    obtain ⟨_, its, hv, o, hg, hc, n, hd⟩ := (show ObjOk X.prog X.w H s.heap a (.tup xs) from I.hok a _ h1)
    obtain ⟨as, q⟩ := Rps.reads I ds xs its h2 hv
    exact ⟨_, .tuple hg hc hd q⟩
  | .dict _, v, u, h, r => by simp only [Rp] at h
theorem Rps.reads (I : Inv X pins σ H s) : ∀ (ds : List PyData) (xs : List V) (us : List Value), Rps H ds xs → Vals xs us → ∃ as, ReadsAll s.heap us ds as
  | [], xs, us, h, r => by
    simp only [Rps] at h
    subst h
    cases r
    exact ⟨_, .nil⟩
  | d :: ds, xs, us, h, r => by
    simp only [Rps] at h
    obtain ⟨x, rr, e, h1, h2⟩ := h
    subst e
    cases r with
    | cons r1 r2 =>
      obtain ⟨as, q1⟩ := Rp.reads I d x _ h1 r1
      obtain ⟨bs, q2⟩ := Rps.reads I ds rr _ h2 r2
      exact ⟨_, .cons q1 q2⟩
end
/-- == and != of data -/
def rEqD (f : Bool → Bool) : R2 := fun x y H Q => ∃ dx dy, Rp H dx x ∧ Rp H dy y ∧ dx.canLay0 = true ∧ dy.canLay0 = true ∧ min dx.depth dy.depth ≤ 60 ∧ Q (.bl (f (PyData.eqv dx dy))) H
theorem op_eqD {k : Nat} (hr : Room k X.A) : OpR X (compareOp .Eq) (rEqD id) := by
  intro pins s σ H x y v u Q I rx ry h
  obtain ⟨dx, dy, h1, h2, l1, l2, hd, q⟩ := h
  obtain ⟨as, r1⟩ := Rp.reads I dx x v h1 rx
  obtain ⟨bs, r2⟩ := Rp.reads I dy y u h2 ry
  exact SeqAt.compareEq_reads r1 r2 l1 l2 (by have := hr.units; omega) ⟨.bl _, H, I, rfl, q⟩
theorem op_neD {k : Nat} (hr : Room k X.A) : OpR X (compareOp .NotEq) (rEqD not) := by
  intro pins s σ H x y v u Q I rx ry h
  obtain ⟨dx, dy, h1, h2, l1, l2, hd, q⟩ := h
  obtain ⟨as, r1⟩ := Rp.reads I dx x v h1 rx
  obtain ⟨bs, r2⟩ := Rp.reads I dy y u h2 ry
  exact SeqAt.compareNe_reads r1 r2 l1 l2 (by have := hr.units; omega) ⟨.bl _, H, I, rfl, q⟩
end
/-! ### two lists walked together -/
def Itz (K : PySem.W.Frag) (a b : Addr) : It :=
  ⟨fun i H => ∃ xs ys x y, SqL K H a xs ∧ SqL K H b ys ∧ xs[i]? = some x ∧ ys[i]? = some y,
   fun i H v H' => ∃ T x y, v = .ref T ∧ H T = none ∧ H' = upd H T (.tup [x, y]) ∧ (∀ xs, SqL K H a xs → xs[i]? = some x) ∧ (∀ ys, SqL K H b ys → ys[i]? = some y),
   fun i H => ∃ xs ys, SqL K H a xs ∧ SqL K H b ys ∧ (xs.length ≤ i ∨ ys.length ≤ i)⟩
def ZipAt (z TI TO i1 i2 a b : Addr) (i : Nat) (h : Heap) : Prop := IsZip h z TI TO .none ∧ IsPair h TI (.ref i1) (.ref i2) ∧ (∃ u v, IsPair h TO u v) ∧ h.IsListIter i1 a i ∧ h.IsListIter i2 b i
theorem turn_zip {P : Program} {w : World} {K : PySem.W.Frag} {elts : List Expr} {k1 : Nat} {pos : Pos} (z TI TO i1 i2 a b : Addr) (D : ZipApart z TI TO i1 i2 a b) :
    Turn P w K (.Tuple elts k1 pos) (Itz K a b) [z, TI, TO, i1, i2] z (ZipAt z TI TO i1 i2 a b) where
  mem := by simp
  obj := fun i h st c hc => by
    obtain ⟨hz, hTI, ⟨u, v, hTO⟩, ⟨o1, e1, _, d1⟩, ⟨o2, e2, _, d2⟩⟩ := st
    simp only [List.mem_cons, List.not_mem_nil, or_false] at hc
    rcases hc with rfl | rfl | rfl | rfl | rfl
    · exact ⟨_, hz, fun v z => nomatch z⟩
    · exact ⟨_, hTI, fun v z => nomatch z⟩
    · exact ⟨_, hTO, fun v z => nomatch z⟩
    · exact ⟨o1, e1, fun v z => by rw [d1] at z; cases z⟩
    · exact ⟨o2, e2, fun v z => by rw [d2] at z; cases z⟩
  keep := fun i h h' st k => by
    obtain ⟨hz, hTI, ⟨u, v, hTO⟩, h1, h2⟩ := st
    exact ⟨k z (by simp) _ hz, k TI (by simp) _ hTI, ⟨u, v, k TO (by simp) _ hTO⟩, h1.at fun o e => k i1 (by simp) o e, h2.at fun o e => k i2 (by simp) o e⟩
  item := by
    intro X hP hw hK hc i pins s σ H E I hf st hg
    subst hP hw hK
    obtain ⟨hz, hTI, ⟨u0, v0, hTO⟩, h1, h2⟩ := st
    obtain ⟨xs, ys, x, y, q1, q2, ex, ey⟩ := hg
    obtain ⟨its1, rv1, p1, _⟩ := I.list q1
    obtain ⟨its2, rv2, p2, _⟩ := I.list q2
    obtain ⟨u, hu, ru⟩ := rv1.get ex
    obtain ⟨u', hu', ru'⟩ := rv2.get ey
    refine wpAny_pyNext_zip_item D hz hTI hTO h1 h2 p1.isList p2.isList (x := u) (y := u') (by simpa using hu) (by simpa using hu') fun h' z' TO' i1' i2' T' sz keep => ?_
    refine ⟨_, rfl, wpAny_letOwnedTupleGo_zip (s := { s with heap := h' }) z' fun h'' z'' sb => ?_⟩
    have hlt : ∀ c o, s.heap.get? c = some o → c < s.heap.objs.size := fun c o e => Heap.lt_size e
    have zlt := hlt _ _ hz
    have TOlt := hlt _ _ hTO
    have TIlt := hlt _ _ hTI
    have i1lt : i1 < s.heap.objs.size := let ⟨o, e, _⟩ := h1; hlt _ _ e
    have i2lt : i2 < s.heap.objs.size := let ⟨o, e, _⟩ := h2; hlt _ _ e
    have fz := hf z (by simp)
    have fTO := hf TO (by simp)
    have f1 := hf i1 (by simp)
    have f2 := hf i2 (by simp)
    have nT : H s.heap.objs.size = none := I.fresh
    have keep2 : ∀ c o, c ≠ z → c ≠ TO → c ≠ i1 → c ≠ i2 → s.heap.get? c = some o → h''.get? c = some o := fun c o c1 c2 c3 c4 e => sb.extBut c o c1 (keep c o c1 c2 c3 c4 e)
    have hT : h''.get? s.heap.objs.size = some { cls := .type "tuple", data := .seq #[u, u'] } := sb.extBut _ _ (Nat.ne_of_gt zlt) T'
    have TOK : IsTup h'' s.heap.objs.size [u, u'].toArray := ⟨_, hT, rfl, _, rfl⟩
    refine ⟨.ref s.heap.objs.size, upd H s.heap.objs.size (.tup [x, y]), ?_, rfl, ⟨_, x, y, rfl, nT, rfl, fun zs h => by rw [I.list_inj h q1]; exact ex, fun zs h => by rw [I.list_inj h q2]; exact ey⟩, ⟨z'', ?_, ⟨u, u', ?_⟩, ?_, ?_⟩, ?_⟩
    · have nch : ∀ c, H c ≠ none → c ≠ z ∧ c ≠ TO ∧ c ≠ i1 ∧ c ≠ i2 := fun c hc => ⟨fun e => hc (by rw [e]; exact fz.1), fun e => hc (by rw [e]; exact fTO.1), fun e => hc (by rw [e]; exact f1.1), fun e => hc (by rw [e]; exact f2.1)⟩
      refine Inv.step (s := s) (g' := s.gens) (d' := s.drawn) (t' := s.toks) (ch := [z, TO, i1, i2]) (h' := h'') I (fun b hb => ?_) (fun b o _ _ hc e _ => ?_) (fun b o _ _ hc e _ => ⟨o.slots, ?_⟩) (fun b o _ e n => ?_) (fun b o hc e => ⟨o, ?_⟩) (fun b xs e => ?_) (fun b o v e => ?_) (fun b ps e => ⟨#[], ?_⟩) (fun m hm => ?_) (fun b o e => ?_) I.bare
      · simp only [List.mem_cons, List.not_mem_nil, or_false] at hb
        rcases hb with rfl | rfl | rfl | rfl
        · exact ⟨fz.2.2.2.1, fz.2.1, fz.2.2.2.2.1, fz.2.2.2.2.2⟩
        · exact ⟨fTO.2.2.2.1, fTO.2.1, fTO.2.2.2.2.1, fTO.2.2.2.2.2⟩
        · exact ⟨f1.2.2.2.1, f1.2.1, f1.2.2.2.2.1, f1.2.2.2.2.2⟩
        · exact ⟨f2.2.2.2.1, f2.2.1, f2.2.2.2.2.1, f2.2.2.2.2.2⟩
      · simp only [List.mem_cons, List.not_mem_nil, or_false, not_or] at hc
        exact keep2 b o hc.1 hc.2.1 hc.2.2.1 hc.2.2.2 e
      · simp only [List.mem_cons, List.not_mem_nil, or_false, not_or] at hc
        exact keep2 b o hc.1 hc.2.1 hc.2.2.1 hc.2.2.2 e
      · rw [upd_ne (Nat.ne_of_lt (Heap.lt_size e))]; exact n
      · simp only [List.mem_cons, List.not_mem_nil, or_false, not_or] at hc
        exact keep2 b o hc.1 hc.2.1 hc.2.2.1 hc.2.2.2 e
      · rw [upd_ne (ne_of_none e nT)]; exact e
      · rw [upd_ne (ne_of_none e nT)]; exact e
      · rw [upd_ne (ne_of_none e nT)]; simpa using e
      · obtain ⟨o, es, ep, ho, r⟩ := hm
        exact ⟨o, es, ep, keep2 _ o (Ne.symm fz.2.1) (Ne.symm fTO.2.1) (Ne.symm f1.2.1) (Ne.symm f2.2.1) ho, r⟩
      · by_cases hb : b = s.heap.objs.size
        · subst hb
          rw [upd_same] at e
          cases e
          exact ⟨by show 2 ≤ sizeLine; decide, [u, u'], .cons ru (.cons ru' .nil), TOK⟩
        · rw [upd_ne hb] at e
          refine (I.hok b o e).stay (fun c v hc q => ?_) (fun c q => by rw [upd_ne (ne_of_none q nT)]; exact q) fun c xs q => by rw [upd_ne (ne_of_none q nT)]; exact q
          have hne : H c ≠ none := by
            rcases hc with rfl | hc
            · rw [e]; exact fun z => nomatch z
            · rw [hc]; exact fun z => nomatch z
          obtain ⟨c1, c2, c3, c4⟩ := nch c hne
          exact keep2 c v c1 c2 c3 c4 q
    · exact sb.extBut _ _ D.TIz (keep _ _ D.TIz D.TITO D.TIi1 D.TIi2 hTI)
    · exact sb.extBut _ _ D.TOz TO'
    · exact i1'.at fun o e => sb.extBut _ _ D.i1z e
    · exact i2'.at fun o e => sb.extBut _ _ D.i2z e
    · intro b hb
      rw [upd_ne ?_]
      · exact (hf b hb).1
      · simp only [List.mem_cons, List.not_mem_nil, or_false] at hb
        rcases hb with rfl | rfl | rfl | rfl | rfl
        · exact Nat.ne_of_lt zlt
        · exact Nat.ne_of_lt TIlt
        · exact Nat.ne_of_lt TOlt
        · exact Nat.ne_of_lt i1lt
        · exact Nat.ne_of_lt i2lt
  done := by
    intro X hP hw hK hc i pins s σ H E I hf st hg
    subst hP hw hK
    obtain ⟨hz, hTI, ⟨u0, v0, hTO⟩, h1, h2⟩ := st
    obtain ⟨xs, ys, q1, q2, hx⟩ := hg
    obtain ⟨its1, rv1, p1, _⟩ := I.list q1
    obtain ⟨its2, rv2, p2, _⟩ := I.list q2
    have l1 := rv1.length
    have l2 := rv2.length
    have fz := hf z (by simp)
    have fTO := hf TO (by simp)
    have f1 := hf i1 (by simp)
    have f2 := hf i2 (by simp)
    refine wpAny_pyNext_zip_end (I.ok.hd hc) D hz hTI hTO h1 h2 p1.isList p2.isList (by
      rcases hx with hx | hx
      · exact .inl (by simp; omega)
      · exact .inr (by simp; omega)) fun h' keep => ⟨rfl, ?_⟩
    have nch : ∀ c, H c ≠ none → c ≠ z ∧ c ≠ TO ∧ c ≠ i1 ∧ c ≠ i2 := fun c hc => ⟨fun e => hc (by rw [e]; exact fz.1), fun e => hc (by rw [e]; exact fTO.1), fun e => hc (by rw [e]; exact f1.1), fun e => hc (by rw [e]; exact f2.1)⟩
    refine Inv.step (s := s) (g' := s.gens) (d' := s.drawn) (t' := s.toks) (ch := [z, TO, i1, i2]) (h' := h') I (fun b hb => ?_) (fun b o _ _ hc e _ => ?_) (fun b o _ _ hc e _ => ⟨o.slots, ?_⟩) (fun b o _ e n => n) (fun b o hc e => ⟨o, ?_⟩) (fun b xs e => e) (fun b o v e => e) (fun b ps e => ⟨#[], by simpa using e⟩) (fun m hm => ?_) (fun b o e => ?_) I.bare
    · simp only [List.mem_cons, List.not_mem_nil, or_false] at hb
      rcases hb with rfl | rfl | rfl | rfl
      · exact ⟨fz.2.2.2.1, fz.2.1, fz.2.2.2.2.1, fz.2.2.2.2.2⟩
      · exact ⟨fTO.2.2.2.1, fTO.2.1, fTO.2.2.2.2.1, fTO.2.2.2.2.2⟩
      · exact ⟨f1.2.2.2.1, f1.2.1, f1.2.2.2.2.1, f1.2.2.2.2.2⟩
      · exact ⟨f2.2.2.2.1, f2.2.1, f2.2.2.2.2.1, f2.2.2.2.2.2⟩
    · simp only [List.mem_cons, List.not_mem_nil, or_false, not_or] at hc
      exact keep b o hc.1 hc.2.1 hc.2.2.1 hc.2.2.2 e
    · simp only [List.mem_cons, List.not_mem_nil, or_false, not_or] at hc
      exact keep b o hc.1 hc.2.1 hc.2.2.1 hc.2.2.2 e
    · simp only [List.mem_cons, List.not_mem_nil, or_false, not_or] at hc
      exact keep b o hc.1 hc.2.1 hc.2.2.1 hc.2.2.2 e
    · obtain ⟨o, es, ep, ho, r⟩ := hm
      exact ⟨o, es, ep, keep _ o (Ne.symm fz.2.1) (Ne.symm fTO.2.1) (Ne.symm f1.2.1) (Ne.symm f2.2.1) ho, r⟩
    · refine (I.hok b o e).stay (fun c v hc q => ?_) (fun c q => q) fun c xs q => q
      have hne : H c ≠ none := by
        rcases hc with rfl | hc
        · rw [e]; exact fun z => nomatch z
        · rw [hc]; exact fun z => nomatch z
      obtain ⟨c1, c2, c3, c4⟩ := nch c hne
      exact keep c v c1 c2 c3 c4 q
  self := fun _ _ _ _ _ st h => wpAny_pyIter_zip st.1 h
section
variable {X : Cx}
def iZip (K : PySem.W.Frag) (ta : TA) : TI := fun σ H R => ta σ H fun vs H1 => ∃ a b xs ys, vs = [.ref a, .ref b] ∧ SqL K H1 a xs ∧ SqL K H1 b ys ∧ R (Itz K a b) H1
theorem pi_zip {a b : Expr} {ta : TA} {p pos : Pos} {elts : List Expr} {k1 : Nat} {tpos : Pos} (hg : Gl X "zip") (hm : X.mg "zip" = none) (ha : PA X [a, b] ta) (hs : starEach [a, b] X.env = [(false, eval a X.env), (false, eval b X.env)] := by rfl) (hs2 : starEach [b] X.env = [(false, eval b X.env)] := by rfl) :
    PI X (.Tuple elts k1 tpos) (.Call (.Name "zip" p) [a, b] [] pos) (iZip X.K ta) := by
  intro pins s σ H R I h
  refine wpAny_Call_Name_kw (ld_blt I hg hm bb_zip ?_)
  refine PyProof.Rows.callWith_type1 (thn (ha pos pins s σ H _ I h) fun us s1 ⟨vs, H1, I1, r1, q1⟩ => ?_) (by rw [hs, hs2]) (by rw [hs2]; rfl)
  obtain ⟨a1, b1, xs, ys, rfl, h1, h2, q⟩ := q1
  obtain ⟨u, w', rfl, ra, rb⟩ := Vals.two r1
  cases ra
  cases rb
  obtain ⟨its1, rv1, p1, _⟩ := I1.list h1
  obtain ⟨its2, rv2, p2, _⟩ := I1.list h2
  have l1 : a1 < s1.heap.objs.size := let ⟨_, e, _⟩ := p1.isList; Heap.lt_size e
  have l2 : b1 < s1.heap.objs.size := let ⟨_, e, _⟩ := p2.isList; Heap.lt_size e
  refine call_zip_2 p1.isList p2.isList fun h' hz hTI hTO hi1 hi2 hsz keep => ?_
  have I2 : Inv X pins σ H1 { s1 with heap := h' } := I1.kept (t' := s1.toks) keep
  refine wpAny_pyIter_zip (s := { s1 with heap := h' }) hz ?_
  refine ⟨_, _, _, _, H1, rfl, I2, turn_zip _ _ _ _ _ a1 b1 (zipApart_new l1 l2), ⟨hz, hTI, ⟨_, _, hTO⟩, hi1, hi2⟩, fun b hb => ?_, q⟩
  have hb' : s1.heap.objs.size ≤ b := by
    simp only [List.mem_cons, List.not_mem_nil, or_false] at hb
    rcases hb with rfl | rfl | rfl | rfl | rfl <;> omega
  exact I1.fpOk hb' (I1.hok.fresh hb')
/-- sum of a list of ints -/
theorem preSum_take (ns : List Int) : ∀ j, j ≤ ns.length → preSum (fun i => ns.getD i 0) j = (ns.take j).sum
  | 0, _ => by simp [preSum]
  | j + 1, h => by
    have hj : j < ns.length := h
    rw [preSum, preSum_take ns j (Nat.le_of_lt hj), List.take_succ_eq_append_getElem hj, List.sum_append]
    simp [List.getD, hj]
theorem call_sumI (hc : X.calm = true) : CallR X (.builtin "sum") (fun xs H Q => ∃ p ns, xs = [.ref p] ∧ SqL X.K H p ((ns : List Int).map V.int) ∧ Q (.int ns.sum) H) := by
  intro pins s σ H xs us Q I r h
  obtain ⟨p, ns, rfl, hq, q⟩ := h
  obtain ⟨u, rfl, ru⟩ := Vals.one r
  cases ru
  obtain ⟨its, rv, pl, _⟩ := I.list hq
  have hh : X.A.in1.handled = none := I.ok.hd hc
  have lt : p < s.heap.objs.size := let ⟨_, e, _⟩ := pl.isList; Heap.lt_size e
  have hl : its.length = ns.length := by rw [← rv.length, List.length_map]
  refine call_sum_walkG (wpAny_pyIter_list pl.isList ?_)
  refine ⟨s.heap.objs.size, _, _, _, _, _, fun i => ns.getD i 0, rfl, Walks.list hh s.heap.objs.size p (Nat.ne_of_lt lt) its.toArray, ⟨⟨_, Heap.get?_push_size _ rfl, rfl, rfl⟩, pl.isList.at fun o e => Heap.get?_push_of_some _ e⟩, fun b hb => ?_, fun i v hv => ?_, fun h' tk t' keep => ?_⟩
  · simp only [List.mem_cons, List.not_mem_nil, or_false] at hb
    rcases hb with rfl | rfl
    · rw [Heap.size_push]; exact Nat.lt_succ_self _
    · rw [Heap.size_push]; exact Nat.lt_succ_of_lt lt
  · have hv' : its[i]? = some v := by simpa using hv
    have hi : i < ns.length := by rw [← hl]; exact (List.getElem?_eq_some_iff.mp hv').1
    obtain ⟨u, hu, ru⟩ := rv.get (i := i) (x := .int ns[i]) (by rw [List.getElem?_map, List.getElem?_eq_getElem hi]; rfl)
    rw [hu] at hv'
    cases hv'
    obtain ⟨t, e⟩ := ru
    refine ⟨t, ?_⟩
    rw [e]
    simp [List.getD, hi]
  · have e : preSum (fun i => ns.getD i 0) its.toArray.size = ns.sum := by
      rw [List.size_toArray, hl, preSum_take ns _ (Nat.le_refl _), List.take_length]
    rw [e]
    refine ⟨.int ns.sum, H, ?_, ⟨t', rfl⟩, q⟩
    exact I.kept (h' := h') (t' := tk) fun b o eb => keep b o (by simp only [List.mem_cons, List.not_mem_nil, or_false]; exact Nat.ne_of_lt (Heap.lt_size eb)) (Heap.get?_push_of_some _ eb)
end
end L2

namespace L2
open PySem PySem.Spec PyProof.Rows Nm
/-! ### numbers as data -/
def toD : Nb → PyData
  | .q r => .tuple [.int r.num, .int (r.den : Int)]
  | .z i => .int i
def RN (H : Hp) (x : Nb) (v : V) : Prop := Rp H (toD x) v
theorem RN.q {H : Hp} {r : Rat} {v : V} (h : RN H (.q r) v) : ∃ a, v = .ref a ∧ H a = some (.tup [.int r.num, .int (r.den : Int)]) := by
  simp only [RN, toD, Rp, Rps] at h
  obtain ⟨a, xs, e, h1, x, r1, e1, e2, y, r2, e3, e4, e5⟩ := h
  subst e5 e4 e3 e2 e1
  exact ⟨a, e, h1⟩
theorem RN.of_q {H : Hp} {r : Rat} {a : Addr} (h : H a = some (.tup [.int r.num, .int (r.den : Int)])) : RN H (.q r) (.ref a) := by
  simp only [RN, toD, Rp, Rps]
  exact ⟨a, _, rfl, h, _, _, rfl, rfl, _, _, rfl, rfl, rfl⟩
theorem RN.z {H : Hp} {i : Int} {v : V} (h : RN H (.z i) v) : v = .int i := by
  simpa only [RN, toD, Rp] using h
theorem RN.of_z {H : Hp} {i : Int} : RN H (.z i) (.int i) := by
  simp only [RN, toD, Rp]
theorem RN.mono {H H' : Hp} {x : Nb} {v : V} (h : RN H x v) (g : Same H H') : RN H' x v := Rp.mono g _ _ h
theorem toD_lay (x : Nb) : (toD x).canLay0 = true := by
  cases x <;> rfl
theorem toD_depth (x : Nb) : (toD x).depth ≤ 1 := by
  cases x <;> simp [toD, PyData.depth, PyData.depthAll]
theorem toD_eqv (x y : Nb) : PyData.eqv (toD x) (toD y) = decide (x = y) := by
  cases x with
  | q r =>
    cases y with
    | q s =>
      show ((r.num == s.num) && (((r.den : Int) == (s.den : Int)) && true)) = decide (Nb.q r = Nb.q s)
      by_cases h : r = s
      · subst h; simp
      · have h' : ¬ Nb.q r = Nb.q s := fun z => h (Nb.q.inj z)
        rw [decide_eq_false h']
        rw [Bool.and_eq_false_iff]
        by_cases h1 : r.num = s.num
        · right
          rw [Bool.and_true]
          have : ¬ (r.den : Int) = (s.den : Int) := fun z => h (Rat.ext h1 (by omega))
          simp [this]
        · left; simp [h1]
    | z j => simp [toD, PyData.eqv]
  | z i =>
    cases y with
    | q s => simp [toD, PyData.eqv]
    | z j =>
      show (i == j) = decide (Nb.z i = Nb.z j)
      by_cases h : i = j
      · subst h; simp
      · have h' : ¬ Nb.z i = Nb.z j := fun z => h (Nb.z.inj z)
        rw [decide_eq_false h']; simp [h]
/-- sizes of a number -/
def nsm (n : Nat) : Nb → Prop
  | .q r => Sm n r.num ∧ Sm n (r.den : Int)
  | .z i => Sm n i
theorem nsm.mono {m n : Nat} {x : Nb} (h : nsm m x) (hmn : m ≤ n) : nsm n x := by
  cases x with
  | q r => exact ⟨Sm.mono h.1 hmn, Sm.mono h.2 hmn⟩
  | z i => exact Sm.mono (show Sm m i from h) hmn
theorem sm_of_lt {n : Nat} {i : Int} (h0 : 0 ≤ i) (h1 : i < 2 ^ n) : Sm n i := by
  unfold Sm
  have : (i.natAbs : Int) = i := by omega
  have h2 : ((2 ^ n : Nat) : Int) = 2 ^ n := by norm_cast
  omega
theorem sm_rest {k i : Int} (h0 : 0 ≤ i) (h1 : i < k) (h9 : k < 99) : Sm 7 i := by
  unfold Sm
  have : (2 : Nat) ^ 7 = 128 := by decide
  omega
/-- of a fraction made: the parts are no greater than what they were made of -/
theorem divInt_den_le {t b : Int} (hb : b ≠ 0) : ((Rat.divInt t b).den : Int).natAbs ≤ b.natAbs := by
  have h := (frac_num (t := t) hb).2
  rw [← h, Int.fdiv_eq_ediv_of_dvd (sg_dvd_b t b)]
  have e := Int.ediv_mul_cancel (sg_dvd_b t b)
  have h1 : (b / sg t b * sg t b).natAbs = b.natAbs := by rw [e]
  rw [Int.natAbs_mul] at h1
  have h2 : 0 < (sg t b).natAbs := Int.natAbs_pos.mpr (sg_ne hb)
  rw [← h1]
  exact Nat.le_mul_of_pos_right _ h2
theorem divInt_num_le {t b : Int} (hb : b ≠ 0) : (Rat.divInt t b).num.natAbs ≤ t.natAbs := by
  have h := (frac_num (t := t) hb).1
  rw [← h, Int.fdiv_eq_ediv_of_dvd (sg_dvd_t t b)]
  have e := Int.ediv_mul_cancel (sg_dvd_t t b)
  have h1 : (t / sg t b * sg t b).natAbs = t.natAbs := by rw [e]
  rw [Int.natAbs_mul] at h1
  have h2 : 0 < (sg t b).natAbs := Int.natAbs_pos.mpr (sg_ne hb)
  rw [← h1]
  exact Nat.le_mul_of_pos_right _ h2
theorem divInt_sm {m n : Nat} {t b : Int} (hb : b ≠ 0) (ht : Sm m t) (hs : Sm n b) : Sm m (Rat.divInt t b).num ∧ Sm n ((Rat.divInt t b).den : Int) := ⟨ht.le (divInt_num_le hb), hs.le (divInt_den_le hb)⟩
theorem sg_le {t b : Int} (hb : b ≠ 0) : (sg t b).natAbs ≤ b.natAbs := by
  rw [sg_abs]; exact Int.gcd_le_natAbs_right t hb

/-! ### what the four make -/
theorem fmod_ok {k : Int} (hk : k ≠ 0) (k0 : 0 ≤ k) (a : Int) : Nb.ok k (.z (a.fmod k)) := ⟨hk, Int.fmod_nonneg_of_pos a (by omega), Int.fmod_lt_of_pos a (by omega)⟩
theorem ok_pair {k : Int} {x y : Nb} (hx : x.ok k) (hy : y.ok k) : (k = 0 ∧ ∃ r s, x = .q r ∧ y = .q s) ∨ (k ≠ 0 ∧ ∃ i j, x = .z i ∧ y = .z j ∧ 0 ≤ i ∧ i < k ∧ 0 ≤ j ∧ j < k) := by
  cases x with
  | q r =>
    cases y with
    | q s => exact .inl ⟨hx, r, s, rfl, rfl⟩
    | z j => exact absurd (show k = 0 from hx) hy.1
  | z i =>
    cases y with
    | q s => exact absurd (show k = 0 from hy) hx.1
    | z j => exact .inr ⟨hx.1, i, j, rfl, rfl, hx.2.1, hx.2.2, hy.2.1, hy.2.2⟩
section
variable {k : Int} {x y : Nb}
theorem nadd_ok (k0 : 0 ≤ k) (hx : x.ok k) (hy : y.ok k) : (nadd k x y).ok k := by
  rcases ok_pair hx hy with ⟨h, r, s, rfl, rfl⟩ | ⟨h, i, j, rfl, rfl, _⟩
  · exact h
  · exact fmod_ok h k0 _
theorem nsub_ok (k0 : 0 ≤ k) (hx : x.ok k) (hy : y.ok k) : (nsub k x y).ok k := by
  rcases ok_pair hx hy with ⟨h, r, s, rfl, rfl⟩ | ⟨h, i, j, rfl, rfl, _⟩
  · exact h
  · exact fmod_ok h k0 _
theorem nmul_ok (k0 : 0 ≤ k) (hx : x.ok k) (hy : y.ok k) : (nmul k x y).ok k := by
  rcases ok_pair hx hy with ⟨h, r, s, rfl, rfl⟩ | ⟨h, i, j, rfl, rfl, _⟩
  · exact h
  · exact fmod_ok h k0 _
theorem ndiv_ok (k0 : 0 ≤ k) (hx : x.ok k) (hy : y.ok k) : (ndiv k x y).ok k := by
  rcases ok_pair hx hy with ⟨h, r, s, rfl, rfl⟩ | ⟨h, i, j, rfl, rfl, _⟩
  · exact h
  · exact fmod_ok h k0 _
theorem sm_ok {n : Nat} (hk : KindOk k) (h : k ≠ 0) (hn : 7 ≤ n) (a : Int) : nsm n (.z (a.fmod k)) := by
  have hl := hk.lt
  have h0 := Int.fmod_nonneg_of_pos a (show 0 < k by omega)
  have h1 := Int.fmod_lt_of_pos a (show 0 < k by omega)
  exact (sm_rest h0 h1 hl.2).mono hn
theorem rat_den_mul (r s : Rat) : (r.den : Int) * (s.den : Int) ≠ 0 := Int.mul_ne_zero (den_ne r) (den_ne s)
theorem nadd_sm {m : Nat} (hk : KindOk k) (hx : x.ok k) (hy : y.ok k) (sx : nsm m x) (sy : nsm m y) (hm : 7 ≤ m) : nsm (m + m + 1) (nadd k x y) := by
  rcases ok_pair hx hy with ⟨h, r, s, rfl, rfl⟩ | ⟨h, i, j, rfl, rfl, _⟩
  · show Sm _ (r + s).num ∧ Sm _ ((r + s).den : Int)
    rw [← rat_add]
    obtain ⟨h1, h2⟩ := divInt_sm (t := r.num * s.den + s.num * r.den) (rat_den_mul r s) ((sx.1.mul sy.2).add (sy.1.mul sx.2)) (sx.2.mul sy.2)
    exact ⟨h1, h2.mono (Nat.le_succ _)⟩
  · exact sm_ok hk h (by omega) _
theorem nsub_sm {m : Nat} (hk : KindOk k) (hx : x.ok k) (hy : y.ok k) (sx : nsm m x) (sy : nsm m y) (hm : 7 ≤ m) : nsm (m + m + 1) (nsub k x y) := by
  rcases ok_pair hx hy with ⟨h, r, s, rfl, rfl⟩ | ⟨h, i, j, rfl, rfl, _⟩
  · show Sm _ (r - s).num ∧ Sm _ ((r - s).den : Int)
    rw [← rat_sub]
    obtain ⟨h1, h2⟩ := divInt_sm (t := r.num * s.den - s.num * r.den) (rat_den_mul r s) ((sx.1.mul sy.2).sub (sy.1.mul sx.2)) (sx.2.mul sy.2)
    exact ⟨h1, h2.mono (Nat.le_succ _)⟩
  · exact sm_ok hk h (by omega) _
theorem nmul_sm {m : Nat} (hk : KindOk k) (hx : x.ok k) (hy : y.ok k) (sx : nsm m x) (sy : nsm m y) (hm : 7 ≤ m) : nsm (m + m) (nmul k x y) := by
  rcases ok_pair hx hy with ⟨h, r, s, rfl, rfl⟩ | ⟨h, i, j, rfl, rfl, _⟩
  · show Sm _ (r * s).num ∧ Sm _ ((r * s).den : Int)
    rw [← rat_mul]
    exact divInt_sm (rat_den_mul r s) (sx.1.mul sy.1) (sx.2.mul sy.2)
  · exact sm_ok hk h (by omega) _
theorem ndiv_sm {m : Nat} (hk : KindOk k) (hx : x.ok k) (hy : y.ok k) (ne : y ≠ nnum k 0) (sx : nsm m x) (sy : nsm m y) (hm : 7 ≤ m) : nsm (m + m) (ndiv k x y) := by
  rcases ok_pair hx hy with ⟨h, r, s, rfl, rfl⟩ | ⟨h, i, j, rfl, rfl, _⟩
  · subst h
    have s0 : s ≠ 0 := fun z => ne (by rw [z]; rfl)
    show Sm _ (r / s).num ∧ Sm _ ((r / s).den : Int)
    rw [← rat_div]
    exact divInt_sm (Int.mul_ne_zero (den_ne r) (num_ne s0)) (sx.1.mul sy.2) (sx.2.mul sy.1)
  · exact sm_ok hk h (by omega) _
end
theorem fmod_lin {k a b : Int} (h : k ∣ a - b) : (a - b).fmod k = 0 := fmod_zero_of_dvd h
end L2

namespace L2
open PySem PySem.Spec PyProof.Rows Nm
/-! ### pairs of lists -/
section
variable {α β : Type} {R S : α → β → Prop}
theorem pd_len : ∀ {xs : List α} {ys : List β}, Paired R xs ys → xs.length = ys.length
  | _, _, .nil => rfl
  | _, _, .cons _ t => congrArg (· + 1) (pd_len t)
theorem pd_imp (f : ∀ a b, R a b → S a b) : ∀ {xs : List α} {ys : List β}, Paired R xs ys → Paired S xs ys
  | _, _, .nil => .nil
  | _, _, .cons r t => .cons (f _ _ r) (pd_imp f t)
theorem pd_app : ∀ {xs xs' : List α} {ys ys' : List β}, Paired R xs ys → Paired R xs' ys' → Paired R (xs ++ xs') (ys ++ ys')
  | _, _, _, _, .nil, s => s
  | _, _, _, _, .cons r t, s => .cons r (pd_app t s)
theorem pd_snoc {xs : List α} {ys : List β} {a : α} {b : β} (h : Paired R xs ys) (r : R a b) : Paired R (xs ++ [a]) (ys ++ [b]) := pd_app h (.cons r .nil)
theorem pd_left : ∀ {xs : List α} {ys : List β} {i : Nat} {a : α}, Paired R xs ys → xs[i]? = some a → ∃ b, ys[i]? = some b ∧ R a b
  | _, _, _, _, .nil, e => by simp at e
  | _, _, 0, _, .cons r _, e => by simp at e; subst e; exact ⟨_, rfl, r⟩
  | _, _, i + 1, a, .cons _ t, e => by
    obtain ⟨b, h1, h2⟩ := pd_left (i := i) (a := a) t (by simpa using e)
    exact ⟨b, by simpa using h1, h2⟩
theorem pd_right : ∀ {xs : List α} {ys : List β} {i : Nat} {b : β}, Paired R xs ys → ys[i]? = some b → ∃ a, xs[i]? = some a ∧ R a b
  | _, _, _, _, .nil, e => by simp at e
  | _, _, 0, _, .cons r _, e => by simp at e; subst e; exact ⟨_, rfl, r⟩
  | _, _, i + 1, b, .cons _ t, e => by
    obtain ⟨a, h1, h2⟩ := pd_right (i := i) (b := b) t (by simpa using e)
    exact ⟨a, by simpa using h1, h2⟩
theorem pd_mem : ∀ {xs : List α} {ys : List β} {b : β}, Paired R xs ys → b ∈ ys → ∃ a ∈ xs, R a b
  | _, _, _, .nil, e => nomatch e
  | _, _, b, .cons r t, e => by
    rcases List.mem_cons.mp e with rfl | e
    · exact ⟨_, List.mem_cons_self, r⟩
    · obtain ⟨a, h1, h2⟩ := pd_mem t e
      exact ⟨a, List.mem_cons_of_mem _ h1, h2⟩
end
theorem take_snoc {α : Type} {l : List α} {i : Nat} {x : α} (h : l[i]? = some x) : l.take (i + 1) = l.take i ++ [x] := by
  obtain ⟨hi, e⟩ := List.getElem?_eq_some_iff.mp h
  rw [List.take_succ_eq_append_getElem hi, e]
/-! ### rows and tables of numbers -/
def RowAt (H : Hp) (xs : List Nb) (a : Addr) : Prop := ∃ vs, H a = some (.lst vs) ∧ Paired (RN H) xs vs
def TabAt (H : Hp) (M : List (List Nb)) (top : Addr) (ras : List Addr) : Prop := H top = some (.lst (ras.map V.ref)) ∧ Paired (RowAt H) M ras
theorem pd_rn {H H' : Hp} (g : Same H H') {xs : List Nb} {vs : List V} (h : Paired (RN H) xs vs) : Paired (RN H') xs vs := pd_imp (fun _ _ r => r.mono g) h
theorem RowAt.mono {H H' : Hp} {xs : List Nb} {a : Addr} (h : RowAt H xs a) (g : Same H H') : RowAt H' xs a :=
  let ⟨vs, h1, h2⟩ := h
  ⟨vs, g _ _ h1, pd_rn g h2⟩
theorem TabAt.mono {H H' : Hp} {M : List (List Nb)} {top : Addr} {ras : List Addr} (h : TabAt H M top ras) (g : Same H H') : TabAt H' M top ras := ⟨g _ _ h.1, pd_imp (fun _ _ r => r.mono g) h.2⟩
theorem TabAt.row {H : Hp} {M : List (List Nb)} {top : Addr} {ras : List Addr} {i : Nat} {v : V} (h : TabAt H M top ras) (e : (ras.map V.ref)[i]? = some v) : ∃ xs a, M[i]? = some xs ∧ ras[i]? = some a ∧ v = .ref a ∧ RowAt H xs a := by
  rw [List.getElem?_map] at e
  obtain ⟨a, ha, rfl⟩ := Option.map_eq_some_iff.mp e
  obtain ⟨xs, hx, r⟩ := pd_right h.2 ha
  exact ⟨xs, a, hx, ha, rfl, r⟩
/-- as data -/
def rowD (xs : List Nb) : PyData := .list (xs.map toD)
def tabD (M : List (List Nb)) : PyData := .list (M.map rowD)
theorem rps_row {H : Hp} : ∀ {xs : List Nb} {vs : List V}, Paired (RN H) xs vs → Rps H (xs.map toD) vs
  | _, _, .nil => by simp [Rps]
  | _, _, .cons r t => by
    simp only [List.map_cons, Rps]
    exact ⟨_, _, rfl, r, rps_row t⟩
theorem RowAt.rp {H : Hp} {xs : List Nb} {a : Addr} (h : RowAt H xs a) : Rp H (rowD xs) (.ref a) := by
  obtain ⟨vs, h1, h2⟩ := h
  simp only [rowD, Rp]
  exact ⟨a, vs, rfl, h1, rps_row h2⟩
theorem rps_rows {H : Hp} : ∀ {M : List (List Nb)} {ras : List Addr}, Paired (RowAt H) M ras → Rps H (M.map rowD) (ras.map V.ref)
  | _, _, .nil => by simp [Rps]
  | _, _, .cons r t => by
    simp only [List.map_cons, Rps]
    exact ⟨_, _, rfl, r.rp, rps_rows t⟩
theorem TabAt.rp {H : Hp} {M : List (List Nb)} {top : Addr} {ras : List Addr} (h : TabAt H M top ras) : Rp H (tabD M) (.ref top) := by
  simp only [tabD, Rp]
  exact ⟨top, _, rfl, h.1, rps_rows h.2⟩
theorem layAll_map {α : Type} (f : α → PyData) (h : ∀ x, (f x).canLay0 = true) : ∀ l : List α, PyData.canLayAll0 (l.map f) = true
  | [] => rfl
  | x :: r => by
    show ((f x).canLay0 && PyData.canLayAll0 (r.map f)) = true
    rw [h x, layAll_map f h r]; rfl
theorem depthAll_map {α : Type} (f : α → PyData) (n : Nat) (h : ∀ x, (f x).depth ≤ n) : ∀ l : List α, PyData.depthAll (l.map f) ≤ n
  | [] => Nat.zero_le _
  | x :: r => by
    show max (f x).depth (PyData.depthAll (r.map f)) ≤ n
    exact Nat.max_le.mpr ⟨h x, depthAll_map f n h r⟩
theorem rowD_lay (xs : List Nb) : (rowD xs).canLay0 = true := layAll_map toD toD_lay xs
theorem rowD_depth (xs : List Nb) : (rowD xs).depth ≤ 2 := Nat.succ_le_succ (depthAll_map toD 1 toD_depth xs)
theorem tabD_lay (M : List (List Nb)) : (tabD M).canLay0 = true := layAll_map rowD rowD_lay M
theorem tabD_depth (M : List (List Nb)) : (tabD M).depth ≤ 3 := Nat.succ_le_succ (depthAll_map rowD 2 rowD_depth M)
theorem eqvAll_map {α : Type} (f : α → PyData) (h : ∀ x, PyData.eqv (f x) (f x) = true) : ∀ l : List α, PyData.eqvAll (l.map f) (l.map f) = true
  | [] => rfl
  | x :: r => by
    show (PyData.eqv (f x) (f x) && PyData.eqvAll (r.map f) (r.map f)) = true
    rw [h x, eqvAll_map f h r]; rfl
theorem toD_self (x : Nb) : PyData.eqv (toD x) (toD x) = true := by rw [toD_eqv]; simp
theorem rowD_self (xs : List Nb) : PyData.eqv (rowD xs) (rowD xs) = true := eqvAll_map toD toD_self xs
theorem tabD_self (M : List (List Nb)) : PyData.eqv (tabD M) (tabD M) = true := eqvAll_map rowD rowD_self M
/-! ### the walks of a comprehension, by an invariant -/
/-- one turn on -/
def Nxt (n i : Nat) (J : Prop) : Prop := ∃ m', m' < n - i ∧ m' = n - (i + 1) ∧ i + 1 ≤ n ∧ J
theorem nxt {n i : Nat} {J : Prop} (h : i < n) (j : J) : Nxt n i J := ⟨n - (i + 1), by omega, rfl, h, j⟩
section
variable {K : PySem.W.Frag} {g : TG} {tt : TT} {te : TE} {R : List V → Hp → Prop} {H : Hp} {σb : St}
theorem comp_list {a : Addr} {xs : List V} (J : Nat → List V → Hp → Prop) (h0 : J 0 [] H) (hl : ∀ (i : Nat) (ys : List V) (H' : Hp), i ≤ xs.length → J i ys H' → SqL K H' a xs ∧ ys.length < sizeLine)
    (hs : ∀ (i : Nat) (x : V) (ys : List V) (H' : Hp), xs[i]? = some x → i < xs.length → J i ys H' → g x σb H' fun σ2 H2 => tt σ2 H2 fun b H3 => if b = true then te σ2 H3 fun y H4 => Nxt xs.length i (J (i + 1) (ys ++ [y]) H4) else Nxt xs.length i (J (i + 1) ys H3))
    (hd : ∀ (ys : List V) (H' : Hp), J xs.length ys H' → R ys H') :
    ∃ W : Nat → Nat → List V → Hp → Prop, (∃ m, W 0 m [] H) ∧ ∀ i m ys H, W i m ys H →
      ((Itl K a).stop i H ∧ ys.length ≤ sizeLine ∧ R ys H) ∨
      ((Itl K a).go i H ∧ ys.length < sizeLine ∧ ∀ x H', (Itl K a).yld i H x H' → g x σb H' fun σ2 H2 => tt σ2 H2 fun b H3 => if b = true then te σ2 H3 fun y H4 => ∃ m', m' < m ∧ W (i + 1) m' (ys ++ [y]) H4 else ∃ m', m' < m ∧ W (i + 1) m' ys H3) := by
  refine ⟨fun i m ys H => m = xs.length - i ∧ i ≤ xs.length ∧ J i ys H, ⟨xs.length, by simp, Nat.zero_le _, h0⟩, ?_⟩
  rintro i m ys H1 ⟨rfl, hi, j⟩
  obtain ⟨q, hz⟩ := hl i ys H1 hi j
  by_cases hlt : i < xs.length
  · refine .inr ⟨⟨xs, xs[i], q, by simp [hlt]⟩, hz, fun x H' y => ?_⟩
    obtain ⟨e, y⟩ := y
    subst e
    exact hs i x ys _ (y xs q) hlt j
  · have e : i = xs.length := by omega
    subst e
    exact .inl ⟨⟨xs, q, Nat.le_refl _⟩, Nat.le_of_lt hz, hd ys H1 j⟩
theorem comp_range {lo : Int} {n : Nat} (J : Nat → List V → Hp → Prop) (h0 : J 0 [] H) (hl : ∀ (i : Nat) (ys : List V) (H' : Hp), i ≤ n → J i ys H' → ys.length < sizeLine)
    (hs : ∀ (i : Nat) (ys : List V) (H' : Hp), i < n → J i ys H' → g (.int (lo + i)) σb H' fun σ2 H2 => tt σ2 H2 fun b H3 => if b = true then te σ2 H3 fun y H4 => Nxt n i (J (i + 1) (ys ++ [y]) H4) else Nxt n i (J (i + 1) ys H3))
    (hd : ∀ (ys : List V) (H' : Hp), J n ys H' → R ys H') :
    ∃ W : Nat → Nat → List V → Hp → Prop, (∃ m, W 0 m [] H) ∧ ∀ i m ys H, W i m ys H →
      ((Itr lo n).stop i H ∧ ys.length ≤ sizeLine ∧ R ys H) ∨
      ((Itr lo n).go i H ∧ ys.length < sizeLine ∧ ∀ x H', (Itr lo n).yld i H x H' → g x σb H' fun σ2 H2 => tt σ2 H2 fun b H3 => if b = true then te σ2 H3 fun y H4 => ∃ m', m' < m ∧ W (i + 1) m' (ys ++ [y]) H4 else ∃ m', m' < m ∧ W (i + 1) m' ys H3) := by
  refine ⟨fun i m ys H => m = n - i ∧ i ≤ n ∧ J i ys H, ⟨n, by simp, Nat.zero_le _, h0⟩, ?_⟩
  rintro i m ys H1 ⟨rfl, hi, j⟩
  have hz := hl i ys H1 hi j
  by_cases hlt : i < n
  · refine .inr ⟨hlt, hz, fun x H' y => ?_⟩
    obtain ⟨e, y⟩ := y
    subst e y
    exact hs i ys _ hlt j
  · have e : i = n := by omega
    subst e
    exact .inl ⟨Nat.le_refl _, Nat.le_of_lt hz, hd ys H1 j⟩
/-- two lists of one length walked together -/
theorem comp_zip {a b : Addr} {xs zs : List V} (he : xs.length = zs.length) (J : Nat → List V → Hp → Prop) (h0 : J 0 [] H) (hl : ∀ (i : Nat) (ys : List V) (H' : Hp), i ≤ xs.length → J i ys H' → SqL K H' a xs ∧ SqL K H' b zs ∧ ys.length < sizeLine)
    (hs : ∀ (i : Nat) (x z : V) (T : Addr) (ys : List V) (H' : Hp), xs[i]? = some x → zs[i]? = some z → i < xs.length → H' T = none → J i ys H' → g (.ref T) σb (upd H' T (.tup [x, z])) fun σ2 H2 => tt σ2 H2 fun b H3 => if b = true then te σ2 H3 fun y H4 => Nxt xs.length i (J (i + 1) (ys ++ [y]) H4) else Nxt xs.length i (J (i + 1) ys H3))
    (hd : ∀ (ys : List V) (H' : Hp), J xs.length ys H' → R ys H') :
    ∃ W : Nat → Nat → List V → Hp → Prop, (∃ m, W 0 m [] H) ∧ ∀ i m ys H, W i m ys H →
      ((Itz K a b).stop i H ∧ ys.length ≤ sizeLine ∧ R ys H) ∨
      ((Itz K a b).go i H ∧ ys.length < sizeLine ∧ ∀ x H', (Itz K a b).yld i H x H' → g x σb H' fun σ2 H2 => tt σ2 H2 fun b H3 => if b = true then te σ2 H3 fun y H4 => ∃ m', m' < m ∧ W (i + 1) m' (ys ++ [y]) H4 else ∃ m', m' < m ∧ W (i + 1) m' ys H3) := by
  refine ⟨fun i m ys H => m = xs.length - i ∧ i ≤ xs.length ∧ J i ys H, ⟨xs.length, by simp, Nat.zero_le _, h0⟩, ?_⟩
  rintro i m ys H1 ⟨rfl, hi, j⟩
  obtain ⟨q1, q2, hz⟩ := hl i ys H1 hi j
  by_cases hlt : i < xs.length
  · refine .inr ⟨⟨xs, zs, xs[i], zs[i]'(by omega), q1, q2, by simp [hlt], by simp [show i < zs.length by omega]⟩, hz, fun x H' y => ?_⟩
    obtain ⟨T, u, v, rfl, hT, rfl, y1, y2⟩ := y
    exact hs i u v T ys _ (y1 xs q1) (y2 zs q2) hlt hT j
  · have e : i = xs.length := by omega
    subst e
    exact .inl ⟨⟨xs, zs, q1, q2, .inl (Nat.le_refl _)⟩, Nat.le_of_lt hz, hd ys H1 j⟩
end
/-- a for over two lists of one length -/
theorem for_zip {K : PySem.W.Frag} {a b : Addr} {xs zs : List V} {g : TG} {tb : TS} {D : Ends} {σ : St} {H : Hp} (he : xs.length = zs.length) (Pv : Nat → St → Hp → Prop) (h0 : Pv 0 σ H) (hl : ∀ i σ H, i ≤ xs.length → Pv i σ H → SqL K H a xs ∧ SqL K H b zs)
    (hs : ∀ (i : Nat) (x z : V) (T : Addr) (σ : St) (H : Hp), xs[i]? = some x → zs[i]? = some z → H T = none → Pv i σ H → g (.ref T) σ (upd H T (.tup [x, z])) fun σ2 H2 => tb { D with nx := Pv (i + 1), ct := Pv (i + 1), bk := D.nx } σ2 H2) (hd : ∀ σ H, Pv xs.length σ H → D.nx σ H) :
    ∃ W : Nat → Nat → St → Hp → Prop, (∃ m, W 0 m σ H) ∧ ∀ i m σ H, W i m σ H →
      ((Itz K a b).stop i H ∧ D.nx σ H) ∨ ((Itz K a b).go i H ∧ ∃ N : St → Hp → Prop, (∀ σ' H', N σ' H' → ∃ m', m' < m ∧ W (i + 1) m' σ' H') ∧ ∀ x H', (Itz K a b).yld i H x H' → g x σ H' fun σ2 H2 => tb { D with nx := N, ct := N, bk := D.nx } σ2 H2) := by
  refine ⟨fun i m σ H => m = xs.length - i ∧ i ≤ xs.length ∧ Pv i σ H, ⟨xs.length, by simp, Nat.zero_le _, h0⟩, ?_⟩
  rintro i m σ H ⟨rfl, hi, p⟩
  obtain ⟨q1, q2⟩ := hl i σ H hi p
  by_cases hlt : i < xs.length
  · refine .inr ⟨⟨xs, zs, xs[i], zs[i]'(by omega), q1, q2, by simp [hlt], by simp [show i < zs.length by omega]⟩, Pv (i + 1), fun σ' H' p' => ⟨xs.length - (i + 1), by omega, rfl, hlt, p'⟩, fun x H' y => ?_⟩
    obtain ⟨T, u, v, rfl, hT, rfl, y1, y2⟩ := y
    exact hs i u v T σ _ (y1 xs q1) (y2 zs q2) hT p
  · have e : i = xs.length := by omega
    subst e
    exact .inl ⟨⟨xs, zs, q1, q2, .inl (Nat.le_refl _)⟩, hd σ H p⟩
end L2

namespace La
open Lean.Grind
section
variable {F : Type} [Field F]
/-- sums of multiples -/
inductive Span (S : (Nat → F) → Prop) : (Nat → F) → Prop
  | zero : Span S (fun _ => 0)
  | step (c : F) {r v : Nat → F} (h : S r) (t : Span S v) : Span S (fun j => c * r j + v j)
variable {S T : (Nat → F) → Prop} {u v : Nat → F}
theorem Span.cast (h : Span S u) (e : ∀ j, u j = v j) : Span S v := by
  have : u = v := funext e
  rw [← this]; exact h
theorem Span.of (h : S v) : Span S v := (Span.step 1 h .zero).cast fun j => by grind
theorem Span.add (h : Span S u) (g : Span S v) : Span S (fun j => u j + v j) := by
  induction h with
  | zero => exact g.cast fun j => by grind
  | step c hr _ ih => exact (Span.step c hr ih).cast fun j => by grind
theorem Span.smul (c : F) (h : Span S v) : Span S (fun j => c * v j) := by
  induction h with
  | zero => exact Span.zero.cast fun j => by grind
  | step d hr _ ih => exact (Span.step (c * d) hr ih).cast fun j => by grind
theorem Span.lin (a b : F) (h : Span S u) (g : Span S v) : Span S (fun j => a * u j + b * v j) := (h.smul a).add (g.smul b)
theorem Span.bind (f : ∀ r, S r → Span T r) (h : Span S v) : Span T v := by
  induction h with
  | zero => exact .zero
  | step c hr _ ih => exact ((f _ hr).smul c).add ih
theorem Span.mono (f : ∀ r, S r → T r) (h : Span S v) : Span T v := h.bind fun r q => .of (f r q)
/-- a property that is kept by sums of multiples -/
theorem Span.all {P : (Nat → F) → Prop} (h : Span S v) (z : P fun _ => 0) (s : ∀ c r v, S r → P v → P (fun j => c * r j + v j)) : P v := by
  induction h with
  | zero => exact z
  | step c hr _ ih => exact s c _ _ hr ih
theorem Span.zero_at {i : Nat} (h : Span S v) (z : ∀ r, S r → r i = 0) : v i = 0 :=
  h.all (P := fun v => v i = 0) rfl fun c r v hr hv => by
    show c * r i + v i = 0
    rw [z r hr, hv]; grind
/-! ### reduced lists: pairs of a lead and a row -/
abbrev Pv (F : Type) := Nat × (Nat → F)
def Rows (P : List (Pv F)) : (Nat → F) → Prop := fun r => ∃ p ∈ P, p.2 = r
structure Rr (n : Nat) (P : List (Pv F)) : Prop where
  inc : P.Pairwise fun a b => a.1 < b.1
  lt : ∀ p ∈ P, p.1 < n
  out : ∀ p ∈ P, ∀ j, n ≤ j → p.2 j = 0
  bef : ∀ p ∈ P, ∀ j, j < p.1 → p.2 j = 0
  one : ∀ p ∈ P, p.2 p.1 = 1
  oth : ∀ p ∈ P, ∀ q ∈ P, p.1 ≠ q.1 → p.2 q.1 = 0
def comb : List (Pv F) → (Nat → F) → Nat → F
  | [], _, _ => 0
  | p :: P, v, j => v p.1 * p.2 j + comb P v j
theorem comb_lin (c : F) (u v : Nat → F) (j : Nat) : ∀ P : List (Pv F), comb P (fun i => c * u i + v i) j = c * comb P u j + comb P v j
  | [] => by simp only [comb]; grind
  | p :: P => by simp only [comb]; rw [comb_lin c u v j P]; grind
theorem comb_zero (v : Nat → F) (j : Nat) : ∀ P : List (Pv F), (∀ p ∈ P, v p.1 * p.2 j = 0) → comb P v j = 0
  | [], _ => rfl
  | p :: P, h => by
    simp only [comb]
    rw [h p List.mem_cons_self, comb_zero v j P fun q hq => h q (List.mem_cons_of_mem _ hq)]; grind
theorem comb_span (v : Nat → F) : ∀ P : List (Pv F), Span (Rows P) (comb P v)
  | [] => Span.zero.cast fun _ => rfl
  | p :: P => by
    have h := (comb_span v P).mono (T := Rows (p :: P)) fun r ⟨q, hq, e⟩ => ⟨q, List.mem_cons_of_mem _ hq, e⟩
    exact (Span.step (v p.1) (r := p.2) (S := Rows (p :: P)) ⟨p, List.mem_cons_self, rfl⟩ h).cast fun j => rfl
/-- only one row is taken where the numbers at the leads are the unit's -/
theorem comb_pick {v : Nat → F} {p : Pv F} (j : Nat) : ∀ P : List (Pv F), P.Pairwise (fun a b => a.1 < b.1) → p ∈ P → v p.1 = 1 → (∀ q ∈ P, q.1 ≠ p.1 → v q.1 = 0) → comb P v j = p.2 j
  | [], _, h, _, _ => nomatch h
  | q :: P, inc, h, h1, h0 => by
    rw [List.pairwise_cons] at inc
    simp only [comb]
    rcases List.mem_cons.mp h with e | h
    · subst e
      rw [comb_zero v j P fun r hr => by rw [h0 r (List.mem_cons_of_mem _ hr) (Nat.ne_of_gt (inc.1 r hr))]; grind]
      rw [h1]; grind
    · rw [h0 q List.mem_cons_self (Nat.ne_of_lt (inc.1 p h)), comb_pick j P inc.2 h h1 fun r hr => h0 r (List.mem_cons_of_mem _ hr)]; grind
variable {n : Nat} {P Q : List (Pv F)}
theorem Rr.self (R : Rr n P) {p : Pv F} (h : p ∈ P) (j : Nat) : comb P p.2 j = p.2 j := comb_pick j P R.inc h (R.one p h) fun q hq ne => R.oth p h q hq (Ne.symm ne)
/-- what lies in the room is the sum of its rows by its own numbers at the leads -/
theorem Rr.comb (R : Rr n P) (h : Span (Rows P) v) : ∀ j, La.comb P v j = v j := fun j =>
  h.all (P := fun v => La.comb P v j = v j) (comb_zero _ j P fun p _ => by grind) fun c r v ⟨p, hp, e⟩ hv => by
    rw [comb_lin, hv, ← e, R.self hp j]
theorem Rr.out_of (R : Rr n P) (h : Span (Rows P) v) (j : Nat) (hj : n ≤ j) : v j = 0 := h.zero_at fun r ⟨p, hp, e⟩ => by rw [← e]; exact R.out p hp j hj
/-- the leads: the places of first numbers of what lies in the room -/
theorem Rr.lead (R : Rr n P) {i : Nat} (h : Span (Rows P) v) (z : ∀ j, j < i → v j = 0) (ne : v i ≠ 0) : ∃ p ∈ P, p.1 = i := by
  refine Classical.byContradiction fun no => ne ?_
  rw [← R.comb h i]
  refine comb_zero _ i P fun p hp => ?_
  rcases Nat.lt_trichotomy p.1 i with g | g | g
  · rw [z p.1 g]; grind
  · exact absurd ⟨p, hp, g⟩ no
  · rw [R.bef p hp i g]; grind
theorem sorted_ext : ∀ {P Q : List (Pv F)}, P.Pairwise (fun a b => a.1 < b.1) → Q.Pairwise (fun a b => a.1 < b.1) → (∀ p ∈ P, p ∈ Q) → (∀ q ∈ Q, q ∈ P) → P = Q
  | [], [], _, _, _, _ => rfl
  | [], q :: _, _, _, _, h => nomatch h q List.mem_cons_self
  | p :: _, [], _, _, h, _ => nomatch h p List.mem_cons_self
  | p :: P, q :: Q, hP, hQ, h1, h2 => by
    rw [List.pairwise_cons] at hP hQ
    have e : p = q := by
      rcases List.mem_cons.mp (h1 p List.mem_cons_self) with e | m
      · exact e
      · rcases List.mem_cons.mp (h2 q List.mem_cons_self) with e | m'
        · exact e.symm
        · have := hP.1 q m'; have := hQ.1 p m; omega
    subst e
    rw [sorted_ext hP.2 hQ.2 (fun r hr => ?_) (fun r hr => ?_)]
    · rcases List.mem_cons.mp (h1 r (List.mem_cons_of_mem _ hr)) with e | m
      · subst e; exact absurd (hP.1 r hr) (Nat.lt_irrefl _)
      · exact m
    · rcases List.mem_cons.mp (h2 r (List.mem_cons_of_mem _ hr)) with e | m
      · subst e; exact absurd (hQ.1 r hr) (Nat.lt_irrefl _)
      · exact m
/-- rooms of the same rows: the leads of one are leads of the other -/
theorem Rr.leads (R : Rr n P) (R' : Rr n Q) (sub : ∀ v, Span (Rows P) v → Span (Rows Q) v) {p : Pv F} (hp : p ∈ P) : ∃ q ∈ Q, q.1 = p.1 :=
  R'.lead (sub _ (.of ⟨p, hp, rfl⟩)) (fun j hj => R.bef p hp j hj) (by rw [R.one p hp]; grind)
theorem Rr.mem_of (R : Rr n P) (R' : Rr n Q) (s1 : ∀ v, Span (Rows P) v → Span (Rows Q) v) (s2 : ∀ v, Span (Rows Q) v → Span (Rows P) v) {p : Pv F} (hp : p ∈ P) : p ∈ Q := by
  obtain ⟨q, hq, e⟩ := R.leads R' s1 hp
  have : p = q := by
    refine Prod.ext e.symm (funext fun j => ?_)
    rw [← R'.comb (s1 _ (.of ⟨p, hp, rfl⟩)) j]
    refine comb_pick j Q R'.inc hq (by rw [e]; exact R.one p hp) fun r hr ne => ?_
    obtain ⟨p', hp', e'⟩ := R'.leads R s2 hr
    rw [← e']
    exact R.oth p hp p' hp' fun z => ne (by rw [← e', ← z, e])
  rw [this]; exact hq
/-- ONE reduced list for a room -/
theorem Rr.unique (R : Rr n P) (R' : Rr n Q) (s1 : ∀ v, Span (Rows P) v → Span (Rows Q) v) (s2 : ∀ v, Span (Rows Q) v → Span (Rows P) v) : P = Q :=
  sorted_ext R.inc R'.inc (fun _ h => R.mem_of R' s1 s2 h) fun _ h => R'.mem_of R s2 s1 h
/-! ### sweeping -/
/-- behind the columns below c -/
structure Sw (n c : Nat) (O : (Nat → F) → Prop) (D : List (Pv F)) (W : List (Nat → F)) : Prop where
  inc : D.Pairwise fun a b => a.1 < b.1
  lt : ∀ p ∈ D, p.1 < c
  bef : ∀ p ∈ D, ∀ j, j < p.1 → p.2 j = 0
  one : ∀ p ∈ D, p.2 p.1 ≠ 0
  oth : ∀ p ∈ D, ∀ q ∈ D, p.1 ≠ q.1 → p.2 q.1 = 0
  nil : ∀ w ∈ W, ∀ j, j < c → w j = 0
  to : ∀ r, O r → Span (fun r => Rows D r ∨ r ∈ W) r
  fro : ∀ r, (Rows D r ∨ r ∈ W) → Span O r
theorem sw_start (n : Nat) (W : List (Nat → F)) (O : (Nat → F) → Prop) (h1 : ∀ r, O r → Span (· ∈ W) r) (h2 : ∀ r ∈ W, Span O r) : Sw n 0 O ([] : List (Pv F)) W where
  inc := .nil
  lt := fun p h => nomatch h
  bef := fun p h => nomatch h
  one := fun p h => nomatch h
  oth := fun p h => nomatch h
  nil := fun w _ j h => absurd h (Nat.not_lt_zero j)
  to := fun r h => (h1 r h).mono fun _ => .inr
  fro := fun r h => h.elim (fun ⟨p, hp, _⟩ => nomatch hp) (h2 r)
variable {c : Nat} {O : (Nat → F) → Prop} {D D' : List (Pv F)} {W W' : List (Nat → F)}
theorem Sw.skip (s : Sw n c O D W) (h : ∀ w ∈ W, w c = 0) : Sw n (c + 1) O D W :=
  { s with
    lt := fun p hp => Nat.lt_succ_of_lt (s.lt p hp)
    nil := fun w hw j hj => by
      rcases Nat.lt_succ_iff_lt_or_eq.mp hj with g | g
      · exact s.nil w hw j g
      · rw [g]; exact h w hw }
/-- r' is r cleared by the lead row: a multiple, not by nought, and one of the lead row's, and nought stands in the column -/
def Clr (c : Nat) (l r r' : Nat → F) : Prop := (∃ a b : F, a ≠ 0 ∧ ∀ j, r' j = a * r j + b * l j) ∧ r' c = 0
theorem Clr.back {l r r' : Nat → F} (h : Clr c l r r') {S : (Nat → F) → Prop} (hl : Span S l) (hr : Span S r') : Span S r := by
  obtain ⟨⟨a, b, ha, e⟩, _⟩ := h
  exact (hr.lin (1 / a) (-b / a) hl).cast fun j => by rw [e j]; grind
theorem Clr.to {l r r' : Nat → F} (h : Clr c l r r') {S : (Nat → F) → Prop} (hl : Span S l) (hr : Span S r) : Span S r' := by
  obtain ⟨⟨a, b, ha, e⟩, _⟩ := h
  exact (hr.lin a b hl).cast fun j => by rw [e j]
/-- one column with a lead: the rows done (E by a) are cleared (E by b), and those that wait -/
theorem Sw.turn {α : Type} {E : List α} {a b : α → Pv F} (s : Sw n c O (E.map a) W) {l : Nat → F} (hl : l ∈ W) (lc : l c ≠ 0) (hf : ∀ e ∈ E, (b e).1 = (a e).1 ∧ Clr c l (a e).2 (b e).2)
    (hW : ∀ w ∈ W', (w ∈ W ∧ w c = 0) ∨ ∃ r ∈ W, Clr c l r w) (hW2 : ∀ w ∈ W, w ∈ W' ∨ w = l ∨ ∃ w' ∈ W', Clr c l w w') : Sw n (c + 1) O (E.map b ++ [(c, l)]) W' := by
  have lz : ∀ j, j < c → l j = 0 := s.nil l hl
  have ina : ∀ e ∈ E, a e ∈ E.map a := fun e he => List.mem_map.mpr ⟨e, he, rfl⟩
  have alt : ∀ e ∈ E, (a e).1 < c := fun e he => s.lt _ (ina e he)
  have fz : ∀ e ∈ E, ∀ j, j < c → (a e).2 j = 0 → (b e).2 j = 0 := fun e he j hj z => by
    obtain ⟨_, ⟨x, y, ha, q⟩, _⟩ := hf e he
    rw [q j, z, lz j hj]; grind
  have mem : ∀ q ∈ E.map b ++ [(c, l)], (∃ e ∈ E, q = b e) ∨ q = (c, l) := fun q hq => by
    rcases List.mem_append.mp hq with h | h
    · obtain ⟨p, hp, e⟩ := List.mem_map.mp h
      exact .inl ⟨p, hp, e.symm⟩
    · exact .inr (List.mem_singleton.mp h)
  have inl : (c, l) ∈ E.map b ++ [(c, l)] := List.mem_append_right _ (List.mem_singleton.mpr rfl)
  have ind : ∀ e ∈ E, b e ∈ E.map b ++ [(c, l)] := fun e he => List.mem_append_left _ (List.mem_map.mpr ⟨e, he, rfl⟩)
  refine ⟨?_, fun q hq => ?_, fun q hq j hj => ?_, fun q hq => ?_, fun q hq q' hq' ne => ?_, fun w hw j hj => ?_, fun r hr => ?_, fun r hr => ?_⟩
  · rw [List.pairwise_append]
    refine ⟨?_, List.pairwise_singleton _ _, fun x hx y hy => ?_⟩
    · have h := s.inc
      rw [List.pairwise_map] at h ⊢
      refine h.imp_of_mem fun {x y} hx hy q => ?_
      rw [(hf x hx).1, (hf y hy).1]; exact q
    · obtain ⟨p, hp, e⟩ := List.mem_map.mp hx
      rw [List.mem_singleton.mp hy, ← e, (hf p hp).1]; exact alt p hp
  · rcases mem q hq with ⟨p, hp, rfl⟩ | rfl
    · rw [(hf p hp).1]; exact Nat.lt_succ_of_lt (alt p hp)
    · exact Nat.lt_succ_self _
  · rcases mem q hq with ⟨p, hp, rfl⟩ | rfl
    · rw [(hf p hp).1] at hj
      exact fz p hp j (Nat.lt_trans hj (alt p hp)) (s.bef _ (ina p hp) j hj)
    · exact lz j hj
  · rcases mem q hq with ⟨p, hp, rfl⟩ | rfl
    · obtain ⟨e1, ⟨x, y, ha, e⟩, _⟩ := hf p hp
      rw [e1, e, lz _ (alt p hp)]
      have := s.one _ (ina p hp)
      intro z
      grind
    · exact lc
  · rcases mem q hq with ⟨p, hp, rfl⟩ | rfl
    · rcases mem q' hq' with ⟨p', hp', rfl⟩ | rfl
      · rw [(hf p hp).1, (hf p' hp').1] at ne
        rw [(hf p' hp').1]
        exact fz p hp _ (alt p' hp') (s.oth _ (ina p hp) _ (ina p' hp') ne)
      · exact (hf p hp).2.2
    · rcases mem q' hq' with ⟨p', hp', rfl⟩ | rfl
      · rw [(hf p' hp').1]; exact lz _ (alt p' hp')
      · exact absurd rfl ne
  · rcases hW w hw with ⟨h, z⟩ | ⟨r, hr, ⟨⟨x, y, ha, e⟩, z⟩⟩
    · rcases Nat.lt_succ_iff_lt_or_eq.mp hj with g | g
      · exact s.nil w h j g
      · rw [g]; exact z
    · rcases Nat.lt_succ_iff_lt_or_eq.mp hj with g | g
      · rw [e j, s.nil r hr j g, lz j g]; grind
      · rw [g]; exact z
  · refine (s.to r hr).bind fun u hu => ?_
    have L : Span (fun r => Rows (E.map b ++ [(c, l)]) r ∨ r ∈ W') l := .of (.inl ⟨_, inl, rfl⟩)
    rcases hu with ⟨q, hq, rfl⟩ | hu
    · obtain ⟨p, hp, rfl⟩ := List.mem_map.mp hq
      exact (hf p hp).2.back L (.of (.inl ⟨_, ind p hp, rfl⟩))
    · rcases hW2 u hu with h | h | ⟨w', h, k⟩
      · exact .of (.inr h)
      · rw [h]; exact L
      · exact k.back L (.of (.inr h))
  · have L : Span O l := s.fro l (.inr hl)
    rcases hr with ⟨q, hq, rfl⟩ | hr
    · rcases mem q hq with ⟨p, hp, rfl⟩ | rfl
      · exact (hf p hp).2.to L (s.fro _ (.inl ⟨_, ina p hp, rfl⟩))
      · exact L
    · rcases hW r hr with ⟨h, _⟩ | ⟨u, hu, k⟩
      · exact s.fro _ (.inr h)
      · exact k.to L (s.fro _ (.inr hu))
/-- at the end: the rows over their leads are the reduced list -/
theorem Sw.done (s : Sw n n O D W) (ow : ∀ w ∈ W, ∀ j, n ≤ j → w j = 0) (od : ∀ p ∈ D, ∀ j, n ≤ j → p.2 j = 0) : Rr n (D.map fun p => (p.1, fun j => p.2 j / p.2 p.1)) ∧
    (∀ v, Span (Rows (D.map fun p => (p.1, fun j => p.2 j / p.2 p.1))) v → Span O v) ∧ (∀ v, Span O v → Span (Rows (D.map fun p => (p.1, fun j => p.2 j / p.2 p.1))) v) := by
  have wz : ∀ w ∈ W, ∀ j, w j = 0 := fun w hw j => by
    rcases Nat.lt_or_ge j n with g | g
    · exact s.nil w hw j g
    · exact ow w hw j g
  refine ⟨⟨?_, fun q hq => ?_, fun q hq j hj => ?_, fun q hq j hj => ?_, fun q hq => ?_, fun q hq q' hq' ne => ?_⟩, fun v hv => ?_, fun v hv => ?_⟩
  · rw [List.pairwise_map]; exact s.inc
  · obtain ⟨p, hp, rfl⟩ := List.mem_map.mp hq; exact s.lt p hp
  · obtain ⟨p, hp, rfl⟩ := List.mem_map.mp hq
    show p.2 j / p.2 p.1 = 0
    rw [od p hp j hj]; grind
  · obtain ⟨p, hp, rfl⟩ := List.mem_map.mp hq
    show p.2 j / p.2 p.1 = 0
    rw [s.bef p hp j hj]; grind
  · obtain ⟨p, hp, rfl⟩ := List.mem_map.mp hq
    show p.2 p.1 / p.2 p.1 = 1
    have := s.one p hp
    grind
  · obtain ⟨p, hp, rfl⟩ := List.mem_map.mp hq
    obtain ⟨p', hp', rfl⟩ := List.mem_map.mp hq'
    show p.2 p'.1 / p.2 p.1 = 0
    rw [s.oth p hp p' hp' ne]; grind
  · refine hv.bind fun r ⟨q, hq, e⟩ => ?_
    obtain ⟨p, hp, rfl⟩ := List.mem_map.mp hq
    rw [← e]
    exact ((s.fro p.2 (.inl ⟨p, hp, rfl⟩)).smul (1 / p.2 p.1)).cast fun j => by grind
  · refine (hv.bind s.to).bind fun r hr => ?_
    rcases hr with ⟨p, hp, rfl⟩ | hr
    · have := s.one p hp
      have h : Span (Rows (D.map fun p => (p.1, fun j => p.2 j / p.2 p.1))) (fun j => p.2 j / p.2 p.1) := Span.of ⟨_, List.mem_map.mpr ⟨p, hp, rfl⟩, rfl⟩
      exact (h.smul (p.2 p.1)).cast fun j => by grind
    · exact Span.zero.cast fun j => (wz r hr j).symm
end
end La

namespace La
open Lean.Grind Nm
/-- a whole number, in a ring -/
def ι {F : Type} [CommRing F] (w : Int) : F := (Ring.intCast : IntCast F).intCast w
section
variable {F : Type} [CommRing F]
theorem ι_add (x y : Int) : (ι (x + y) : F) = ι x + ι y := Ring.intCast_add x y
theorem ι_mul (x y : Int) : (ι (x * y) : F) = ι x * ι y := Ring.intCast_mul x y
theorem ι_sub (x y : Int) : (ι (x - y) : F) = ι x - ι y := Ring.intCast_sub x y
theorem ι_neg (x : Int) : (ι (-x) : F) = -ι x := Ring.intCast_neg x
theorem ι_zero : (ι 0 : F) = 0 := Ring.intCast_zero
theorem ι_one : (ι 1 : F) = 1 := Ring.intCast_one
end
/-- a field whose numbers are those of the kind -/
structure Kf (k : Int) (F : Type) [Field F] where
  to : Nb → F
  of : F → Nb
  ok : ∀ x, (of x).ok k
  to_of : ∀ x, to (of x) = x
  of_to : ∀ x, x.ok k → of (to x) = x
  add : ∀ {x y}, x.ok k → y.ok k → to (nadd k x y) = to x + to y
  sub : ∀ {x y}, x.ok k → y.ok k → to (nsub k x y) = to x - to y
  mul : ∀ {x y}, x.ok k → y.ok k → to (nmul k x y) = to x * to y
  div : ∀ {x y}, x.ok k → y.ok k → y ≠ nnum k 0 → to (ndiv k x y) = to x / to y
  num : ∀ w : Int, to (nnum k w) = ι w
  zero : ∀ w : Int, (ι w : F) = 0 ↔ k ∣ w
  /-- a fraction is its top over its bottom -/
  rat : ∀ r : Rat, k = 0 → to (.q r) * ι (r.den : Int) = ι r.num
  /-- a rest is its whole number -/
  rest : ∀ i : Int, k ≠ 0 → to (.z i) = ι i
def zpw {F : Type} [CommRing F] (inv : F → F) (a : F) : Int → F
  | .ofNat n => a ^ n
  | .negSucc n => inv (a ^ (n + 1))
@[reducible] noncomputable def fieldOf {F : Type} [CommRing F] (h01 : (0 : F) ≠ 1) (hinv : ∀ a : F, ∃ b : F, (a = 0 → b = 0) ∧ (a ≠ 0 → a * b = 1)) : Field F :=
  have un : ∀ a b c : F, a * b = 1 → a * c = 1 → b = c := fun a b c h1 h2 => by
    have : b = b * (a * c) := by rw [h2]; grind
    have : c = c * (a * b) := by rw [h1]; grind
    grind
  let inv : F → F := fun a => Classical.choose (hinv a)
  have i0 : ∀ a, a = 0 → inv a = 0 := fun a => (Classical.choose_spec (hinv a)).1
  have i1 : ∀ a, a ≠ 0 → a * inv a = 1 := fun a => (Classical.choose_spec (hinv a)).2
  have ii : ∀ a, inv (inv a) = a := fun a => by
    by_cases h : a = 0
    · rw [i0 a h, i0 0 rfl, h]
    · have h' : inv a ≠ 0 := fun z => by
        have := i1 a h
        rw [z] at this
        exact h01 (by rw [← this]; grind)
      have e1 := i1 a h
      have e2 := i1 _ h'
      exact un (inv a) _ _ e2 (by rw [← e1]; grind)
  letI : Inv F := ⟨inv⟩
  letI : Div F := ⟨fun a b => a * inv b⟩
  letI : HPow F Int F := ⟨zpw inv⟩
  { zpow := ⟨zpw inv⟩
    div_eq_mul_inv := fun a b => rfl
    zero_ne_one := h01
    inv_zero := i0 0 rfl
    mul_inv_cancel := fun {a} h => i1 a h
    zpow_zero := fun a => Semiring.pow_zero a
    zpow_succ := fun a n => Semiring.pow_succ a n
    zpow_neg := fun a n => by
      show zpw inv a (-n) = inv (zpw inv a n)
      match n with
      | .ofNat 0 =>
        show a ^ 0 = inv (a ^ 0)
        rw [Semiring.pow_zero]
        have := i1 1 (Ne.symm h01)
        exact un 1 _ _ (by grind) this
      | .ofNat (m + 1) => rfl
      | .negSucc m =>
        show a ^ (m + 1) = inv (inv (a ^ (m + 1)))
        rw [ii] }
/-! fractions -/
def kfRat : Kf 0 Rat where
  to := fun x => match x with | .q r => r | .z _ => 0
  of := .q
  ok := fun _ => rfl
  to_of := fun _ => rfl
  of_to := fun x h => by cases x with
    | q r => rfl
    | z i => exact absurd rfl h.1
  add := fun {x y} hx hy => by
    cases x with
    | z i => exact absurd rfl hx.1
    | q r => cases y with
      | z i => exact absurd rfl hy.1
      | q s => rfl
  sub := fun {x y} hx hy => by
    cases x with
    | z i => exact absurd rfl hx.1
    | q r => cases y with
      | z i => exact absurd rfl hy.1
      | q s => rfl
  mul := fun {x y} hx hy => by
    cases x with
    | z i => exact absurd rfl hx.1
    | q r => cases y with
      | z i => exact absurd rfl hy.1
      | q s => rfl
  div := fun {x y} hx hy _ => by
    cases x with
    | z i => exact absurd rfl hx.1
    | q r => cases y with
      | z i => exact absurd rfl hy.1
      | q s => rfl
  num := fun w => rfl
  zero := fun w => by
    rw [Int.zero_dvd]
    exact Rat.intCast_eq_zero_iff
  rat := fun r _ => by
    show r * ((r.den : Int) : Rat) = ((r.num : Int) : Rat)
    have e : Rat.divInt r.num r.den * Rat.divInt (r.den : Int) 1 = Rat.divInt r.num 1 := by
      rw [Rat.divInt_mul_divInt, Rat.divInt_eq_divInt_iff (by have := den_ne r; omega) (by decide)]
      grind
    have o : ∀ a : Int, Rat.divInt a 1 = (a : Rat) := fun a => by
      rw [Rat.divInt_eq_div]
      show (a : Rat) / 1 = a
      grind
    rw [Rat.num_divInt_den, o, o] at e
    exact e
  rest := fun i h => absurd rfl h
theorem field_div {F : Type} [Field F] {a b z : F} (h : z * b = 1) : a * z = a / b := by
  have n : b ≠ 0 := fun e => by rw [e] at h; grind
  grind
/-! rests -/
section
variable {k : Int} {p : Nat} [NeZero p]
theorem fin_p (hp : (p : Int) = k) : (ι k : Fin p) = 0 := by
  subst hp
  show Fin.intCast (p : Int) = 0
  unfold Fin.intCast
  rw [if_pos (Int.natCast_nonneg p)]
  refine Fin.ext ?_
  show (p : Int).natAbs % p = 0 % p
  simp
theorem fin_dvd (hp : (p : Int) = k) {w : Int} (h : k ∣ w) : (ι w : Fin p) = 0 := by
  obtain ⟨c, rfl⟩ := h
  rw [ι_mul, fin_p hp]; grind
theorem fin_congr (hp : (p : Int) = k) {a b : Int} (h : k ∣ a - b) : (ι a : Fin p) = ι b := by
  have := fin_dvd hp h
  rw [ι_sub] at this
  grind
theorem fin_val (hp : (p : Int) = k) {i : Int} (h0 : 0 ≤ i) (h1 : i < k) : ((ι i : Fin p).val : Int) = i := by
  show ((Fin.intCast i : Fin p).val : Int) = i
  unfold Fin.intCast
  rw [if_pos h0]
  show ((i.natAbs % p : Nat) : Int) = i
  rw [Nat.mod_eq_of_lt (by omega)]; omega
theorem fin_ι (x : Fin p) : (ι (x.val : Int) : Fin p) = x := by
  show (Fin.intCast (x.val : Int) : Fin p) = x
  unfold Fin.intCast
  rw [if_pos (Int.natCast_nonneg _)]
  refine Fin.ext ?_
  show (x.val : Int).natAbs % p = x.val
  rw [Int.natAbs_natCast, Nat.mod_eq_of_lt x.isLt]
theorem fin_zero (hp : (p : Int) = k) (w : Int) : (ι w : Fin p) = 0 ↔ k ∣ w := by
  refine ⟨fun h => ?_, fin_dvd hp⟩
  have k0 : 0 < k := by have := NeZero.ne p; omega
  have e : (ι w : Fin p) = ι (w % k) := fin_congr hp ⟨w / k, by have := Int.emod_add_mul_ediv w k; omega⟩
  have v := fin_val (p := p) hp (Int.emod_nonneg w (by omega)) (Int.emod_lt_of_pos w k0)
  rw [← e, h] at v
  have : w % k = 0 := by rw [← v]; rfl
  exact Int.dvd_of_emod_eq_zero this
theorem fin_inv (h : Pr k) (hp : (p : Int) = k) (a : Fin p) : ∃ b : Fin p, (a = 0 → b = 0) ∧ (a ≠ 0 → a * b = 1) := by
  by_cases z : a = 0
  · exact ⟨0, fun _ => rfl, fun n => absurd z n⟩
  · have a0 : 0 < (a.val : Int) := by
      have : a.val ≠ 0 := fun e => z (Fin.ext e)
      omega
    obtain ⟨x, x0, xk, hx⟩ := inv_exists h a0 (by have := a.isLt; omega)
    refine ⟨ι x, fun e => absurd e z, fun _ => ?_⟩
    have := fin_congr (p := p) hp hx
    rw [ι_mul, fin_ι, ι_one] at this
    grind
theorem fin_01 (h : Pr k) (hp : (p : Int) = k) : (0 : Fin p) ≠ 1 := fun e => by
  have : (ι 1 : Fin p) = 0 := by rw [ι_one]; exact e.symm
  have := (fin_zero hp 1).mp this
  have := Int.le_of_dvd (by decide) this
  have := h.lo
  omega
@[reducible] noncomputable def fieldFin (h : Pr k) (hp : (p : Int) = k) : Field (Fin p) := fieldOf (fin_01 h hp) (fin_inv h hp)
noncomputable def kfFin (h : Pr k) (hp : (p : Int) = k) : @Kf k (Fin p) (fieldFin h hp) :=
  letI := fieldFin h hp
  have k1 := h.lo
  have k0 : k ≠ 0 := by omega
  have fm : ∀ a : Int, (ι (a.fmod k) : Fin p) = ι a := fun a => fin_congr hp (fmod_sub_dvd k a)
  { to := fun x => match x with | .q _ => 0 | .z i => ι i
    of := fun x => .z x.val
    ok := fun x => ⟨k0, Int.natCast_nonneg _, by have := x.isLt; omega⟩
    to_of := fun x => fin_ι x
    of_to := fun x hx => by cases x with
      | q r => exact absurd hx k0
      | z i => exact congrArg Nb.z (fin_val hp hx.2.1 hx.2.2)
    add := fun {x y} hx hy => by
      cases x with
      | q r => exact absurd hx k0
      | z i => cases y with
        | q s => exact absurd hy k0
        | z j => exact (fm _).trans (ι_add i j)
    sub := fun {x y} hx hy => by
      cases x with
      | q r => exact absurd hx k0
      | z i => cases y with
        | q s => exact absurd hy k0
        | z j => exact (fm _).trans (ι_sub i j)
    mul := fun {x y} hx hy => by
      cases x with
      | q r => exact absurd hx k0
      | z i => cases y with
        | q s => exact absurd hy k0
        | z j => exact (fm _).trans (ι_mul i j)
    div := fun {x y} hx hy ne => by
      cases x with
      | q r => exact absurd hx k0
      | z i => cases y with
        | q s => exact absurd hy k0
        | z j =>
          have j0 : j ≠ 0 := fun z => ne (by unfold nnum; rw [if_neg k0, z, Int.zero_fmod])
          obtain ⟨x, x0, xk, hx'⟩ := inv_exists h (show 0 < j by have := hy.2.1; omega) hy.2.2
          have e := fin_congr (p := p) hp hx'
          rw [ι_mul, ι_one] at e
          refine Eq.trans (b := ι i * ι x) ?_ (field_div e)
          show (ι ((i * zinv k j).fmod k) : Fin p) = ι i * ι x
          rw [fm, ι_mul, zinv_of x0 xk hx']
    num := fun w => by
      unfold nnum
      rw [if_neg k0]
      exact fm w
    zero := fin_zero hp
    rat := fun r e => absurd e k0
    rest := fun i _ => rfl }
end
/-- every kind has its field -/
theorem field_of {k : Int} (h : KindOk k) : ∃ (F : Type) (inst : Field F) (dec : DecidableEq F), Nonempty (Kf k F) := by
  rcases h with rfl | h
  · exact ⟨Rat, inferInstance, inferInstance, ⟨kfRat⟩⟩
  · have k1 := h.lo
    haveI : NeZero k.toNat := ⟨by omega⟩
    have hp : ((k.toNat : Nat) : Int) = k := by omega
    exact ⟨Fin k.toNat, fieldFin h hp, inferInstance, ⟨kfFin h hp⟩⟩
end La

namespace La
open Lean.Grind Nm
/-! ### rows of whole numbers -/
section
variable {k : Int} {F : Type} [Field F]
/-- a row of whole numbers in the field -/
def fv (ws : List Int) : Nat → F := fun j => ι (ws.getD j 0)
theorem fv_out {ws : List Int} {j : Nat} (h : ws.length ≤ j) : (fv ws j : F) = 0 := by
  unfold fv
  rw [List.getD_eq_getElem?_getD, List.getElem?_eq_none h]
  exact ι_zero
/-- by a prime: rests -/
def Nf (k : Int) (ws : List Int) : Prop := k ≠ 0 → ∀ w ∈ ws, 0 ≤ w ∧ w < k
theorem fv_zero (φ : Kf k F) {ws : List Int} (h : Nf k ws) (j : Nat) : (fv ws j : F) = 0 ↔ ws.getD j 0 = 0 := by
  unfold fv
  rw [φ.zero]
  constructor
  · intro d
    by_cases k0 : k = 0
    · rw [k0, Int.zero_dvd] at d; exact d
    · have hw : 0 ≤ ws.getD j 0 ∧ ws.getD j 0 < k := by
        rcases Nat.lt_or_ge j ws.length with g | g
        · rw [List.getD_eq_getElem?_getD, List.getElem?_eq_getElem g]
          exact h k0 _ (List.getElem_mem g)
        · rw [List.getD_eq_getElem?_getD, List.getElem?_eq_none g]
          refine ⟨Int.le_refl _, ?_⟩
          show 0 < k
          have n : 0 ≤ k := by
            rcases Int.lt_or_le k 0 with z | z
            · exfalso
              -- a kind below nought has no number
              have := φ.ok (φ.to (.z 0))
              generalize φ.of (φ.to (.z 0)) = x at this
              cases x with
              | q r => exact k0 this
              | z i => obtain ⟨_, i0, i1⟩ := this; omega
            · exact z
          omega
      obtain ⟨c, hc⟩ := d
      rcases Int.lt_trichotomy c 0 with g | g | g
      · have : k * c ≤ k * (-1) := Int.mul_le_mul_of_nonneg_left (by omega) (by omega)
        omega
      · rw [hc, g, Int.mul_zero]
      · have : k * 1 ≤ k * c := Int.mul_le_mul_of_nonneg_left (by omega) (by omega)
        omega
  · intro e; rw [e]; exact Int.dvd_zero k
/-- the greatest common divisor of a row -/
def gcdL (ws : List Int) : Nat := ws.foldl (fun d w => Nat.gcd d w.natAbs) 0
theorem gcd_fold_dvd : ∀ (ws : List Int) (d : Nat), (ws.foldl (fun d w => Nat.gcd d w.natAbs) d ∣ d) ∧ ∀ w ∈ ws, ((ws.foldl (fun d w => Nat.gcd d w.natAbs) d : Nat) : Int) ∣ w
  | [], d => ⟨Nat.dvd_refl d, fun w h => nomatch h⟩
  | x :: ws, d => by
    obtain ⟨h1, h2⟩ := gcd_fold_dvd ws (Nat.gcd d x.natAbs)
    refine ⟨Nat.dvd_trans h1 (Nat.gcd_dvd_left _ _), fun w hw => ?_⟩
    rcases List.mem_cons.mp hw with e | hw
    · rw [e]
      exact Int.ofNat_dvd_left.mpr (Nat.dvd_trans h1 (Nat.gcd_dvd_right _ _))
    · exact h2 w hw
theorem gcdL_dvd {ws : List Int} {w : Int} (h : w ∈ ws) : ((gcdL ws : Nat) : Int) ∣ w := (gcd_fold_dvd ws 0).2 w h
def easedM (k : Int) (ws : List Int) : List Int := if k ≠ 0 then ws.map (·.fmod k) else if gcdL ws = 0 then ws else ws.map fun w => w.fdiv ((gcdL ws : Nat) : Int)
theorem easedM_len (ws : List Int) : (easedM k ws).length = ws.length := by
  unfold easedM; split
  · exact List.length_map _
  · split
    · rfl
    · exact List.length_map _
theorem easedM_nf (k0 : 0 ≤ k) (ws : List Int) : Nf k (easedM k ws) := fun h w hw => by
  unfold easedM at hw
  rw [if_pos h] at hw
  obtain ⟨x, _, rfl⟩ := List.mem_map.mp hw
  exact ⟨Int.fmod_nonneg_of_pos x (by omega), Int.fmod_lt_of_pos x (by omega)⟩
theorem getD_map {α β : Type} (f : α → β) (a : α) (b : β) (h : f a = b) (l : List α) (j : Nat) : (l.map f).getD j b = f (l.getD j a) := by
  rw [List.getD_eq_getElem?_getD, List.getD_eq_getElem?_getD, List.getElem?_map, ← h]
  cases l[j]? <;> rfl
theorem fdiv_dvd {w d : Int} (h : d ∣ w) (hd : d ≠ 0) : w.fdiv d * d = w := by
  rw [Int.fdiv_eq_ediv_of_dvd h]; exact Int.ediv_mul_cancel h
theorem easedM_fv (φ : Kf k F) (ws : List Int) : ∃ a : F, a ≠ 0 ∧ ∀ j, fv (easedM k ws) j = a * fv ws j := by
  have one : (1 : F) ≠ 0 := fun e => Field.zero_ne_one e.symm
  unfold easedM
  split
  · rename_i h
    refine ⟨1, one, fun j => ?_⟩
    unfold fv
    rw [getD_map (fun w : Int => w.fmod k) 0 0 (Int.zero_fmod k)]
    have d := (φ.zero _).mpr (fmod_sub_dvd k (ws.getD j 0))
    rw [ι_sub] at d
    grind
  · rename_i h
    have k0 : k = 0 := Classical.byContradiction fun z => h z
    split
    · exact ⟨1, one, fun j => by grind⟩
    · rename_i g
      have gn : (ι ((gcdL ws : Nat) : Int) : F) ≠ 0 := fun z => by
        rw [φ.zero, k0, Int.zero_dvd] at z; omega
      refine ⟨1 / ι ((gcdL ws : Nat) : Int), fun z => ?_, fun j => ?_⟩
      · have : ι ((gcdL ws : Nat) : Int) * (1 / ι ((gcdL ws : Nat) : Int)) = (1 : F) := by grind
        rw [z] at this
        exact one (by rw [← this]; grind)
      · unfold fv
        rw [getD_map (fun w : Int => w.fdiv ((gcdL ws : Nat) : Int)) 0 0 (Int.zero_fdiv _)]
        have dv : ((gcdL ws : Nat) : Int) ∣ ws.getD j 0 := by
          rcases Nat.lt_or_ge j ws.length with z | z
          · rw [List.getD_eq_getElem?_getD, List.getElem?_eq_getElem z]; exact gcdL_dvd (List.getElem_mem z)
          · rw [List.getD_eq_getElem?_getD, List.getElem?_eq_none z]; exact Int.dvd_zero _
        have e := fdiv_dvd dv (by omega)
        have e2 : (ι ((ws.getD j 0).fdiv ((gcdL ws : Nat) : Int)) : F) * ι ((gcdL ws : Nat) : Int) = ι (ws.getD j 0) := by rw [← ι_mul, e]
        grind
def mixed (row lead : List Int) (c : Nat) : List Int := List.zipWith (fun l r => lead.getD c 0 * l - row.getD c 0 * r) row lead
def clearedM (k : Int) (lead : List Int) (c : Nat) (row : List Int) : List Int := if row.getD c 0 = 0 then row else easedM k (mixed row lead c)
theorem mixed_len {row lead : List Int} (h : row.length = lead.length) (c : Nat) : (mixed row lead c).length = row.length := by
  unfold mixed; rw [List.length_zipWith]; omega
theorem clearedM_len {row lead : List Int} (h : row.length = lead.length) (c : Nat) : (clearedM k lead c row).length = row.length := by
  unfold clearedM; split
  · rfl
  · rw [easedM_len, mixed_len h]
theorem mixed_getD {row lead : List Int} (h : row.length = lead.length) (c j : Nat) : (mixed row lead c).getD j 0 = lead.getD c 0 * row.getD j 0 - row.getD c 0 * lead.getD j 0 := by
  rcases Nat.lt_or_ge j row.length with g | g
  · have g2 : j < lead.length := by omega
    unfold mixed
    rw [List.getD_eq_getElem?_getD, List.getElem?_zipWith, List.getElem?_eq_getElem g, List.getElem?_eq_getElem g2]
    show lead.getD c 0 * row[j] - row.getD c 0 * lead[j] = _
    simp [List.getD_eq_getElem?_getD, List.getElem?_eq_getElem g, List.getElem?_eq_getElem g2]
  · have g2 : lead.length ≤ j := by omega
    have g3 : (mixed row lead c).length ≤ j := by rw [mixed_len h]; exact g
    simp [List.getD_eq_getElem?_getD, List.getElem?_eq_none g, List.getElem?_eq_none g2, List.getElem?_eq_none g3]
theorem clearedM_nf (k0 : 0 ≤ k) {row lead : List Int} (c : Nat) (h : Nf k row) : Nf k (clearedM k lead c row) := by
  unfold clearedM; split
  · exact h
  · exact easedM_nf k0 _
theorem clearedM_clr (φ : Kf k F) {row lead : List Int} (h : row.length = lead.length) {c : Nat} (lc : (fv lead c : F) ≠ 0) : Clr c (fv lead : Nat → F) (fv row) (fv (clearedM k lead c row)) := by
  unfold clearedM
  have one : (1 : F) ≠ 0 := fun e => Field.zero_ne_one e.symm
  split
  · rename_i z
    refine ⟨⟨1, 0, one, fun j => by grind⟩, ?_⟩
    show ι (row.getD c 0) = 0
    rw [z]; exact ι_zero
  · obtain ⟨a, ha, e⟩ := easedM_fv φ (mixed row lead c)
    have m : ∀ j, (fv (mixed row lead c) j : F) = fv lead c * fv row j - fv row c * fv lead j := fun j => by
      unfold fv
      rw [mixed_getD h, ι_sub, ι_mul, ι_mul]
    refine ⟨⟨a * fv lead c, -(a * fv row c), fun z => ?_, fun j => ?_⟩, ?_⟩
    · grind
    · rw [e j, m j]; grind
    · rw [e c, m c]; grind
/-! sweeping -/
def swTurn (k : Int) (c : Nat) (s : List (Nat × List Int) × List (List Int)) : List (Nat × List Int) × List (List Int) :=
  match s.2.filter (fun r => decide (r.getD c 0 ≠ 0)) with
  | [] => s
  | l :: rest => (s.1.map (fun p => (p.1, clearedM k l c p.2)) ++ [(c, l)], s.2.filter (fun r => decide (r.getD c 0 = 0)) ++ rest.map (clearedM k l c))
def swTo (k : Int) (rows : List (List Int)) : Nat → List (Nat × List Int) × List (List Int)
  | 0 => ([], rows.map (easedM k))
  | c + 1 => swTurn k c (swTo k rows c)
/-- rows of one width, in their form -/
structure Fine (k : Int) (n : Nat) (s : List (Nat × List Int) × List (List Int)) : Prop where
  dl : ∀ p ∈ s.1, p.2.length = n
  wl : ∀ w ∈ s.2, w.length = n
  df : ∀ p ∈ s.1, Nf k p.2
  wf : ∀ w ∈ s.2, Nf k w
theorem Fine.turn {n c : Nat} {s : List (Nat × List Int) × List (List Int)} (k0 : 0 ≤ k) (h : Fine k n s) : Fine k n (swTurn k c s) := by
  unfold swTurn
  cases e : s.2.filter (fun r => decide (r.getD c 0 ≠ 0)) with
  | nil => exact h
  | cons l rest =>
    have sub : ∀ r ∈ l :: rest, r ∈ s.2 := fun r hr => by rw [← e] at hr; exact (List.mem_filter.mp hr).1
    have hl := sub l List.mem_cons_self
    refine ⟨fun p hp => ?_, fun w hw => ?_, fun p hp => ?_, fun w hw => ?_⟩
    · rcases List.mem_append.mp hp with hp | hp
      · obtain ⟨q, hq, rfl⟩ := List.mem_map.mp hp
        show (clearedM k l c q.2).length = n
        rw [clearedM_len (by rw [h.dl q hq, h.wl l hl]), h.dl q hq]
      · rw [List.mem_singleton.mp hp]; exact h.wl l hl
    · rcases List.mem_append.mp hw with hw | hw
      · exact h.wl w (List.mem_filter.mp hw).1
      · obtain ⟨q, hq, rfl⟩ := List.mem_map.mp hw
        have := h.wl q (sub q (List.mem_cons_of_mem _ hq))
        rw [clearedM_len (by rw [this, h.wl l hl]), this]
    · rcases List.mem_append.mp hp with hp | hp
      · obtain ⟨q, hq, rfl⟩ := List.mem_map.mp hp
        exact clearedM_nf k0 c (h.df q hq)
      · rw [List.mem_singleton.mp hp]; exact h.wf l hl
    · rcases List.mem_append.mp hw with hw | hw
      · exact h.wf w (List.mem_filter.mp hw).1
      · obtain ⟨q, hq, rfl⟩ := List.mem_map.mp hw
        exact clearedM_nf k0 c (h.wf q (sub q (List.mem_cons_of_mem _ hq)))
theorem Fine.to {n : Nat} {rows : List (List Int)} (k0 : 0 ≤ k) (h : ∀ r ∈ rows, r.length = n) : ∀ c, Fine k n (swTo k rows c)
  | 0 => by
    refine ⟨fun p hp => (nomatch hp), fun w hw => ?_, fun p hp => (nomatch hp), fun w hw => ?_⟩
    · obtain ⟨r, hr, rfl⟩ := List.mem_map.mp hw
      rw [easedM_len, h r hr]
    · obtain ⟨r, hr, rfl⟩ := List.mem_map.mp hw
      exact easedM_nf k0 r
  | c + 1 => (Fine.to k0 h c).turn k0
def inF (D : List (Nat × List Int)) : List (Pv F) := D.map fun p => (p.1, fv p.2)
theorem sw_at (φ : Kf k F) (k0 : 0 ≤ k) {n : Nat} {rows : List (List Int)} (h : ∀ r ∈ rows, r.length = n) : ∀ c, Sw n c (fun v => ∃ r ∈ rows, v = (fv r : Nat → F)) (inF (swTo k rows c).1) ((swTo k rows c).2.map fv)
  | 0 => by
    refine sw_start n _ _ (fun v ⟨r, hr, e⟩ => ?_) fun v hv => ?_
    · obtain ⟨a, ha, q⟩ := easedM_fv φ r
      have hm : (fv (easedM k r) : Nat → F) ∈ (swTo k rows 0).2.map fv := List.mem_map.mpr ⟨_, List.mem_map.mpr ⟨r, hr, rfl⟩, rfl⟩
      have hs : Span (fun v => v ∈ (swTo k rows 0).2.map fv) (fv (easedM k r) : Nat → F) := .of hm
      exact (hs.smul (1 / a)).cast fun j => by rw [e, q j]; grind
    · obtain ⟨w, hw, rfl⟩ := List.mem_map.mp hv
      obtain ⟨r, hr, rfl⟩ := List.mem_map.mp hw
      obtain ⟨a, ha, q⟩ := easedM_fv φ r
      have hs : Span (fun v => ∃ r ∈ rows, v = (fv r : Nat → F)) (fv r) := .of ⟨r, hr, rfl⟩
      exact (hs.smul a).cast fun j => (q j).symm
  | c + 1 => by
    have ih := sw_at φ k0 h c
    have fine := Fine.to k0 h c
    show Sw n (c + 1) _ (inF (swTurn k c (swTo k rows c)).1) ((swTurn k c (swTo k rows c)).2.map fv)
    generalize swTo k rows c = s at ih fine
    have zr : ∀ r ∈ s.2, ((fv r c : F) = 0 ↔ r.getD c 0 = 0) := fun r hr => fv_zero φ (fine.wf r hr) c
    unfold swTurn
    cases e : s.2.filter (fun r => decide (r.getD c 0 ≠ 0)) with
    | nil =>
      refine ih.skip fun w hw => ?_
      obtain ⟨r, hr, rfl⟩ := List.mem_map.mp hw
      rw [zr r hr]
      refine Classical.byContradiction fun z => ?_
      have : r ∈ s.2.filter (fun r => decide (r.getD c 0 ≠ 0)) := List.mem_filter.mpr ⟨hr, by simpa using z⟩
      rw [e] at this
      exact nomatch this
    | cons l rest =>
      have mem : ∀ r ∈ l :: rest, r ∈ s.2 ∧ r.getD c 0 ≠ 0 := fun r hr => by
        rw [← e] at hr
        obtain ⟨h1, h2⟩ := List.mem_filter.mp hr
        exact ⟨h1, by simpa using h2⟩
      obtain ⟨hl, lz⟩ := mem l List.mem_cons_self
      have lc : (fv l c : F) ≠ 0 := fun z => lz ((zr l hl).mp z)
      have ll := fine.wl l hl
      have cl : ∀ r, r.length = n → Clr c (fv l : Nat → F) (fv r) (fv (clearedM k l c r)) := fun r hr => clearedM_clr φ (by rw [hr, ll]) lc
      show Sw n (c + 1) _ (inF (s.1.map (fun p => (p.1, clearedM k l c p.2)) ++ [(c, l)])) ((s.2.filter (fun r => decide (r.getD c 0 = 0)) ++ rest.map (clearedM k l c)).map fv)
      have e1 : (inF (s.1.map (fun p => (p.1, clearedM k l c p.2)) ++ [(c, l)]) : List (Pv F)) = s.1.map (fun p => (p.1, fv (clearedM k l c p.2))) ++ [(c, fv l)] := by
        unfold inF; rw [List.map_append, List.map_map]; rfl
      rw [e1]
      refine Sw.turn (E := s.1) (a := fun p => (p.1, fv p.2)) (b := fun p => (p.1, fv (clearedM k l c p.2))) ih (List.mem_map.mpr ⟨l, hl, rfl⟩) lc (fun p hp => ⟨rfl, cl p.2 (fine.dl p hp)⟩) (fun w hw => ?_) (fun w hw => ?_)
      · obtain ⟨r, hr, rfl⟩ := List.mem_map.mp hw
        rcases List.mem_append.mp hr with hr | hr
        · obtain ⟨h1, h2⟩ := List.mem_filter.mp hr
          exact .inl ⟨List.mem_map.mpr ⟨r, h1, rfl⟩, (zr r h1).mpr (by simpa using h2)⟩
        · obtain ⟨q, hq, rfl⟩ := List.mem_map.mp hr
          have hq2 := (mem q (List.mem_cons_of_mem _ hq)).1
          exact .inr ⟨fv q, List.mem_map.mpr ⟨q, hq2, rfl⟩, cl q (fine.wl q hq2)⟩
      · obtain ⟨r, hr, rfl⟩ := List.mem_map.mp hw
        by_cases z : r.getD c 0 = 0
        · exact .inl (List.mem_map.mpr ⟨r, List.mem_append_left _ (List.mem_filter.mpr ⟨hr, by simpa using z⟩), rfl⟩)
        · have hm : r ∈ l :: rest := by rw [← e]; exact List.mem_filter.mpr ⟨hr, by simpa using z⟩
          rcases List.mem_cons.mp hm with q | q
          · exact .inr (.inl (by rw [q]))
          · exact .inr (.inr ⟨_, List.mem_map.mpr ⟨_, List.mem_append_right _ (List.mem_map.mpr ⟨r, q, rfl⟩), rfl⟩, cl r (fine.wl r hr)⟩)
/-- the room of rows of whole numbers -/
abbrev RmI (F : Type) [Field F] (rows : List (List Int)) : (Nat → F) → Prop := fun v => ∃ r ∈ rows, v = fv r
theorem swept_rr (φ : Kf k F) (k0 : 0 ≤ k) {n : Nat} {rows : List (List Int)} (h : ∀ r ∈ rows, r.length = n) :
    Rr n ((swTo k rows n).1.map fun p => (p.1, fun j => (fv p.2 j / fv p.2 p.1 : F))) ∧
    (∀ v, Span (Rows ((swTo k rows n).1.map fun p => (p.1, fun j => (fv p.2 j / fv p.2 p.1 : F)))) v → Span (RmI F rows) v) ∧ (∀ v, Span (RmI F rows) v → Span (Rows ((swTo k rows n).1.map fun p => (p.1, fun j => (fv p.2 j / fv p.2 p.1 : F)))) v) := by
  have s := sw_at φ k0 h n
  have fine := Fine.to k0 h n
  have d := s.done (fun w hw j hj => by
    obtain ⟨r, hr, rfl⟩ := List.mem_map.mp hw
    exact fv_out (by rw [fine.wl r hr]; exact hj)) (fun p hp j hj => by
    obtain ⟨q, hq, rfl⟩ := List.mem_map.mp hp
    exact fv_out (by rw [fine.dl q hq]; exact hj))
  have e : ((inF (swTo k rows n).1 : List (Pv F)).map fun p => (p.1, fun j => p.2 j / p.2 p.1)) = (swTo k rows n).1.map fun p => (p.1, fun j => (fv p.2 j / fv p.2 p.1 : F)) := by
    unfold inF; rw [List.map_map]; rfl
  rw [e] at d
  exact d
/-- of the rows done: the lead is the first number that is not nought -/
theorem swept_lead (φ : Kf k F) (k0 : 0 ≤ k) {n : Nat} {rows : List (List Int)} (h : ∀ r ∈ rows, r.length = n) {p : Nat × List Int} (hp : p ∈ (swTo k rows n).1) :
    p.1 < n ∧ p.2.length = n ∧ p.2.getD p.1 0 ≠ 0 ∧ ∀ j, j < p.1 → p.2.getD j 0 = 0 := by
  have s := sw_at φ k0 h n
  have fine := Fine.to k0 h n
  have hm : ((p.1, fv p.2) : Pv F) ∈ inF (swTo k rows n).1 := List.mem_map.mpr ⟨p, hp, rfl⟩
  have z := fun j => fv_zero φ (fine.df p hp) j
  exact ⟨s.lt _ hm, fine.dl p hp, fun e => s.one _ hm ((z p.1).mpr e), fun j hj => (z j).mp (s.bef _ hm j hj)⟩
end
end La

namespace La
open Lean.Grind Nm
section
variable {k : Int} {F : Type} [Field F]
/-! ### rows of numbers -/
theorem nnum_ok (h : KindOk k) (w : Int) : (nnum k w).ok k := by
  unfold nnum
  split
  · assumption
  · rename_i n
    have := h.lt
    exact ⟨n, Int.fmod_nonneg_of_pos w (by omega), Int.fmod_lt_of_pos w (by omega)⟩
def OkR (k : Int) (xs : List Nb) : Prop := ∀ x ∈ xs, x.ok k
def nv (φ : Kf k F) (xs : List Nb) : Nat → F := fun j => φ.to (xs.getD j (nnum k 0))
theorem Kf.num0 (φ : Kf k F) : φ.to (nnum k 0) = 0 := by rw [φ.num]; exact ι_zero
theorem Kf.num1 (φ : Kf k F) : φ.to (nnum k 1) = 1 := by rw [φ.num]; exact ι_one
theorem Kf.inj (φ : Kf k F) {x y : Nb} (hx : x.ok k) (hy : y.ok k) (h : φ.to x = φ.to y) : x = y := by rw [← φ.of_to x hx, ← φ.of_to y hy, h]
theorem Kf.zero_iff (φ : Kf k F) (hk : KindOk k) {x : Nb} (hx : x.ok k) : φ.to x = 0 ↔ x = nnum k 0 :=
  ⟨fun h => φ.inj hx (nnum_ok hk 0) (by rw [h, φ.num0]), fun h => by rw [h, φ.num0]⟩
theorem nv_out (φ : Kf k F) {xs : List Nb} {j : Nat} (h : xs.length ≤ j) : nv φ xs j = 0 := by
  unfold nv
  rw [List.getD_eq_getElem?_getD, List.getElem?_eq_none h]
  exact φ.num0
theorem nv_get (φ : Kf k F) {xs : List Nb} {j : Nat} {x : Nb} (h : xs[j]? = some x) : nv φ xs j = φ.to x := by
  unfold nv
  rw [List.getD_eq_getElem?_getD, h]; rfl
theorem nv_inj (φ : Kf k F) {xs ys : List Nb} (hx : OkR k xs) (hy : OkR k ys) (hl : xs.length = ys.length) (h : ∀ j, nv φ xs j = nv φ ys j) : xs = ys := by
  refine List.ext_getElem hl fun j h1 h2 => ?_
  have e := h j
  rw [nv_get φ (List.getElem?_eq_getElem h1), nv_get φ (List.getElem?_eq_getElem h2)] at e
  exact φ.inj (hx _ (List.getElem_mem h1)) (hy _ (List.getElem_mem h2)) e
/-! ### sums of products -/
def dot : Nat → (Nat → F) → (Nat → F) → F
  | 0, _, _ => 0
  | n + 1, u, v => dot n u v + u n * v n
theorem dot_congr {n : Nat} {u u' v v' : Nat → F} (h : ∀ j, j < n → u j * v j = u' j * v' j) : dot n u v = dot n u' v' := by
  induction n with
  | zero => rfl
  | succ n ih => simp only [dot]; rw [ih fun j hj => h j (by omega), h n (by omega)]
theorem dot_smul (a : F) (n : Nat) (u v : Nat → F) : dot n (fun j => a * u j) v = a * dot n u v := by
  induction n with
  | zero => simp only [dot]; grind
  | succ n ih => simp only [dot]; rw [ih]; grind
theorem dot_add (n : Nat) (u u' v : Nat → F) : dot n (fun j => u j + u' j) v = dot n u v + dot n u' v := by
  induction n with
  | zero => simp only [dot]; grind
  | succ n ih => simp only [dot]; rw [ih]; grind
theorem dot_comm (n : Nat) (u v : Nat → F) : dot n u v = dot n v u := dot_congr fun j _ => by grind
theorem dot_zero (n : Nat) (u v : Nat → F) (h : ∀ j, j < n → u j * v j = 0) : dot n u v = 0 := by
  induction n with
  | zero => rfl
  | succ n ih => simp only [dot]; rw [ih fun j hj => h j (by omega), h n (by omega)]; grind
def ndotF (k : Int) (l : List (Nb × Nb)) : Nb := l.foldl (fun s p => nadd k s (nmul k p.1 p.2)) (nnum k 0)
def ndot (k : Int) (xs ys : List Nb) : Nb := ndotF k (xs.zip ys)
theorem zadd_ok {x y : Nb} (hk : KindOk k) (hx : x.ok k) (hy : y.ok k) : (nadd k x y).ok k := by
  have hl := hk.lt
  cases x with
  | q r => cases y with
    | q s => exact hx
    | z j => exact absurd (show k = 0 from hx) hy.1
  | z i => cases y with
    | q s => exact absurd (show k = 0 from hy) hx.1
    | z j => exact ⟨hx.1, Int.fmod_nonneg_of_pos _ (by have := hx.1; omega), Int.fmod_lt_of_pos _ (by have := hx.1; omega)⟩
theorem zmul_ok {x y : Nb} (hk : KindOk k) (hx : x.ok k) (hy : y.ok k) : (nmul k x y).ok k := by
  have hl := hk.lt
  cases x with
  | q r => cases y with
    | q s => exact hx
    | z j => exact absurd (show k = 0 from hx) hy.1
  | z i => cases y with
    | q s => exact absurd (show k = 0 from hy) hx.1
    | z j => exact ⟨hx.1, Int.fmod_nonneg_of_pos _ (by have := hx.1; omega), Int.fmod_lt_of_pos _ (by have := hx.1; omega)⟩
theorem zdiv_ok {x y : Nb} (hk : KindOk k) (hx : x.ok k) (hy : y.ok k) : (ndiv k x y).ok k := by
  have hl := hk.lt
  cases x with
  | q r => cases y with
    | q s => exact hx
    | z j => exact absurd (show k = 0 from hx) hy.1
  | z i => cases y with
    | q s => exact absurd (show k = 0 from hy) hx.1
    | z j => exact ⟨hx.1, Int.fmod_nonneg_of_pos _ (by have := hx.1; omega), Int.fmod_lt_of_pos _ (by have := hx.1; omega)⟩
theorem ndotF_snoc (l : List (Nb × Nb)) (p : Nb × Nb) : ndotF k (l ++ [p]) = nadd k (ndotF k l) (nmul k p.1 p.2) := by
  unfold ndotF; rw [List.foldl_append]; rfl
theorem ndotF_ok (hk : KindOk k) : ∀ (l : List (Nb × Nb)), (∀ p ∈ l, p.1.ok k ∧ p.2.ok k) → (ndotF k l).ok k := by
  intro l
  unfold ndotF
  have go : ∀ (l : List (Nb × Nb)) (s : Nb), s.ok k → (∀ p ∈ l, p.1.ok k ∧ p.2.ok k) → (l.foldl (fun s p => nadd k s (nmul k p.1 p.2)) s).ok k := by
    intro l
    induction l with
    | nil => intro s hs _; exact hs
    | cons p l ih => intro s hs h; exact ih _ (zadd_ok hk hs (zmul_ok hk (h p List.mem_cons_self).1 (h p List.mem_cons_self).2)) fun q hq => h q (List.mem_cons_of_mem _ hq)
  exact fun h => go l _ (nnum_ok hk 0) h
theorem zip_ok {xs ys : List Nb} (hx : OkR k xs) (hy : OkR k ys) : ∀ p ∈ xs.zip ys, p.1.ok k ∧ p.2.ok k := fun p hp => by
  obtain ⟨a, b⟩ := p
  obtain ⟨h1, h2⟩ := List.of_mem_zip hp
  exact ⟨hx _ h1, hy _ h2⟩
theorem ndot_ok (hk : KindOk k) {xs ys : List Nb} (hx : OkR k xs) (hy : OkR k ys) : (ndot k xs ys).ok k := ndotF_ok hk _ (zip_ok hx hy)
theorem ndot_take (φ : Kf k F) (hk : KindOk k) {xs ys : List Nb} (hx : OkR k xs) (hy : OkR k ys) (hl : xs.length = ys.length) : ∀ i, i ≤ xs.length → φ.to (ndotF k ((xs.zip ys).take i)) = dot i (nv φ xs) (nv φ ys)
  | 0, _ => by
    show φ.to (nnum k 0) = 0
    exact φ.num0
  | i + 1, h => by
    have h1 : i < xs.length := h
    have h2 : i < ys.length := by omega
    have hz : i < (xs.zip ys).length := by rw [List.length_zip]; omega
    rw [List.take_succ_eq_append_getElem hz, ndotF_snoc, List.getElem_zip]
    have ih := ndot_take φ hk hx hy hl i (by omega)
    have o1 := hx _ (List.getElem_mem h1)
    have o2 := hy _ (List.getElem_mem h2)
    rw [φ.add (ndotF_ok hk _ fun p hp => zip_ok hx hy p (List.mem_of_mem_take hp)) (zmul_ok hk o1 o2), ih, φ.mul o1 o2]
    simp only [dot]
    rw [nv_get φ (List.getElem?_eq_getElem h1), nv_get φ (List.getElem?_eq_getElem h2)]
theorem ndot_to (φ : Kf k F) (hk : KindOk k) {xs ys : List Nb} (hx : OkR k xs) (hy : OkR k ys) (hl : xs.length = ys.length) : φ.to (ndot k xs ys) = dot xs.length (nv φ xs) (nv φ ys) := by
  have h := ndot_take φ hk hx hy hl xs.length (Nat.le_refl _)
  rw [List.take_of_length_le (by rw [List.length_zip]; omega)] at h
  exact h
/-! ### rows as whole numbers over one bottom -/
def scW (b : Int) : Nb → Int
  | .q r => r.num * b.fdiv (r.den : Int)
  | .z i => i
def dvB (b : Int) : Nb → Prop
  | .q r => (r.den : Int) ∣ b
  | .z _ => True
structure Scl (k : Int) (xs : List Nb) (ws : List Int) (b : Int) : Prop where
  eq : ws = xs.map (scW b)
  pos : 0 < b
  one : k ≠ 0 → b = 1
  dv : ∀ x ∈ xs, dvB b x
theorem Scl.len {xs : List Nb} {ws : List Int} {b : Int} (s : Scl k xs ws b) : ws.length = xs.length := by rw [s.eq, List.length_map]
theorem Scl.ne (φ : Kf k F) (hk : KindOk k) {xs : List Nb} {ws : List Int} {b : Int} (s : Scl k xs ws b) : (ι b : F) ≠ 0 := fun z => by
  rw [φ.zero] at z
  by_cases k0 : k = 0
  · rw [k0, Int.zero_dvd] at z; have := s.pos; omega
  · rw [s.one k0] at z
    have := Int.le_of_dvd (by decide) z
    rcases hk with h | h
    · exact k0 h
    · have := h.lo; omega
theorem scW_to (φ : Kf k F) {b : Int} (one : k ≠ 0 → b = 1) {x : Nb} (hx : x.ok k) (dv : dvB b x) : (ι (scW b x) : F) = φ.to x * ι b := by
  cases x with
  | q r =>
    have k0 : k = 0 := hx
    have e := φ.rat r k0
    have d : (r.den : Int) ∣ b := dv
    have e2 := fdiv_dvd d (den_ne r)
    show (ι (r.num * b.fdiv (r.den : Int)) : F) = _
    rw [ι_mul, ← e]
    have e3 : (ι (b.fdiv (r.den : Int)) : F) * ι (r.den : Int) = ι b := by rw [← ι_mul, e2]
    grind
  | z i =>
    have k0 : k ≠ 0 := hx.1
    rw [φ.rest i k0, one k0, ι_one]
    show (ι i : F) = _
    grind
theorem Scl.fv (φ : Kf k F) {xs : List Nb} {ws : List Int} {b : Int} (s : Scl k xs ws b) (hx : OkR k xs) (j : Nat) : (La.fv ws j : F) = nv φ xs j * ι b := by
  rcases Nat.lt_or_ge j xs.length with g | g
  · have e : ws[j]? = some (scW b xs[j]) := by rw [s.eq, List.getElem?_map, List.getElem?_eq_getElem g]; rfl
    rw [nv_get φ (List.getElem?_eq_getElem g), ← scW_to φ s.one (hx _ (List.getElem_mem g)) (s.dv _ (List.getElem_mem g))]
    unfold La.fv
    rw [List.getD_eq_getElem?_getD, e]; rfl
  · rw [nv_out φ g, fv_out (by rw [s.len]; exact g)]; grind
/-- the sum of a list of products -/
theorem sum_dot (n : Nat) {ws vs : List Int} (h1 : ws.length = n) (h2 : vs.length = n) : (ι (List.zipWith (· * ·) ws vs).sum : F) = dot n (fv ws) (fv vs) := by
  have go : ∀ i, i ≤ n → (ι ((List.zipWith (· * ·) ws vs).take i).sum : F) = dot i (fv ws) (fv vs) := by
    intro i
    induction i with
    | zero => intro _; rw [List.take_zero, List.sum_nil]; exact ι_zero
    | succ i ih =>
      intro hi
      have hz : i < (List.zipWith (· * ·) ws vs).length := by rw [List.length_zipWith]; omega
      rw [List.take_succ_eq_append_getElem hz, List.sum_append, ι_add, ih (by omega), List.getElem_zipWith]
      simp only [dot]
      have e1 : (fv ws i : F) = ι (ws[i]'(by omega)) := by unfold fv; rw [List.getD_eq_getElem?_getD, List.getElem?_eq_getElem (by omega)]; rfl
      have e2 : (fv vs i : F) = ι (vs[i]'(by omega)) := by unfold fv; rw [List.getD_eq_getElem?_getD, List.getElem?_eq_getElem (by omega)]; rfl
      rw [e1, e2, ← ι_mul]
      simp
  have := go n (Nat.le_refl _)
  rw [List.take_of_length_le (by rw [List.length_zipWith]; omega)] at this
  exact this
theorem nnum_ne (φ : Kf k F) {b : Int} (h : (ι b : F) ≠ 0) : nnum k b ≠ nnum k 0 := fun z => h (by rw [← φ.num, z, φ.num0])
theorem sop_eq (hk : KindOk k) {xs ys : List Nb} {ws vs : List Int} {b c : Int} (hl : xs.length = ys.length) (s1 : Scl k xs ws b) (s2 : Scl k ys vs c) (hx : OkR k xs) (hy : OkR k ys) :
    nnum k (b * c) ≠ nnum k 0 ∧ ndiv k (nnum k (List.zipWith (· * ·) ws vs).sum) (nnum k (b * c)) = ndot k xs ys := by
  obtain ⟨F, _, _, ⟨φ⟩⟩ := field_of hk
  have n1 := s1.ne φ hk
  have n2 := s2.ne φ hk
  have n3 : (ι (b * c) : F) ≠ 0 := fun z => by rw [ι_mul] at z; grind
  have nn := nnum_ne φ n3
  refine ⟨nn, φ.inj (zdiv_ok hk (nnum_ok hk _) (nnum_ok hk _)) (ndot_ok hk hx hy) ?_⟩
  rw [φ.div (nnum_ok hk _) (nnum_ok hk _) nn, φ.num, φ.num, ndot_to φ hk hx hy hl, sum_dot xs.length s1.len (by rw [s2.len, hl]), ι_mul]
  have e : dot xs.length (La.fv ws) (La.fv vs) = (ι b * ι c) * dot xs.length (nv φ xs) (nv φ ys) := by
    rw [← dot_smul]
    exact dot_congr fun j _ => by rw [s1.fv φ hx, s2.fv φ hy]; grind
  rw [e]; grind
/-- by rests: the sum of products, its rest -/
theorem zdot_eq (hk : KindOk k) (k0 : k ≠ 0) {is js : List Int} (hl : is.length = js.length) (hx : OkR k (is.map .z)) (hy : OkR k (js.map .z)) : Nb.z ((List.zipWith (· * ·) is js).sum.fmod k) = ndot k (is.map .z) (js.map .z) := by
  obtain ⟨F, _, _, ⟨φ⟩⟩ := field_of hk
  have e : Nb.z ((List.zipWith (· * ·) is js).sum.fmod k) = nnum k (List.zipWith (· * ·) is js).sum := by unfold nnum; rw [if_neg k0]
  rw [e]
  refine φ.inj (nnum_ok hk _) (ndot_ok hk hx hy) ?_
  rw [φ.num, ndot_to φ hk hx hy (by simp [hl]), sum_dot is.length rfl hl.symm, List.length_map]
  have z0 : Nb.z 0 = nnum k 0 := by unfold nnum; rw [if_neg k0, Int.zero_fmod]
  have h : ∀ (l : List Int) j, nv φ (l.map Nb.z) j = fv l j := fun l j => by
    unfold nv fv
    rw [← z0, getD_map Nb.z 0 (Nb.z 0) rfl, φ.rest _ k0]
  exact dot_congr fun j _ => by rw [h, h]
/-! ### the reduced form -/
def RmN (φ : Kf k F) (M : List (List Nb)) : (Nat → F) → Prop := fun v => ∃ r ∈ M, v = nv φ r
/-- rows of one width, numbers of the kind -/
def OkM (k : Int) (n : Nat) (M : List (List Nb)) : Prop := ∀ r ∈ M, r.length = n ∧ OkR k r
/-- R is a reduced list -/
structure IsR (φ : Kf k F) (n : Nat) (R : List (List Nb)) (ls : List Nat) : Prop where
  ok : OkM k n R
  len : ls.length = R.length
  rr : Rr n (ls.zip (R.map (nv φ)))
/-- R is the reduced form of M -/
structure RedOf (φ : Kf k F) (n : Nat) (M R : List (List Nb)) (ls : List Nat) : Prop extends IsR φ n R ls where
  to : ∀ v, Span (RmN φ M) v → Span (RmN φ R) v
  fro : ∀ v, Span (RmN φ R) v → Span (RmN φ M) v
theorem rows_iff {φ : Kf k F} {R : List (List Nb)} {ls : List Nat} (h : ls.length = R.length) (v : Nat → F) : Rows (ls.zip (R.map (nv φ))) v ↔ RmN φ R v := by
  constructor
  · rintro ⟨p, hp, rfl⟩
    obtain ⟨a, b⟩ := p
    obtain ⟨r, hr, e⟩ := List.mem_map.mp (List.of_mem_zip hp).2
    exact ⟨r, hr, e.symm⟩
  · rintro ⟨r, hr, rfl⟩
    obtain ⟨i, hi, e⟩ := List.getElem_of_mem hr
    have h1 : i < ls.length := by omega
    have h2 : i < (R.map (nv φ)).length := by rw [List.length_map]; exact hi
    refine ⟨(ls[i], (R.map (nv φ))[i]), ?_, by simp [e]⟩
    rw [← List.getElem_zip (h := by rw [List.length_zip]; omega)]
    exact List.getElem_mem _
theorem IsR.rows {φ : Kf k F} {n : Nat} {R : List (List Nb)} {ls : List Nat} (h : IsR φ n R ls) {v : Nat → F} : Span (Rows (ls.zip (R.map (nv φ)))) v ↔ Span (RmN φ R) v :=
  ⟨fun q => q.mono fun u => (rows_iff h.len u).mp, fun q => q.mono fun u => (rows_iff h.len u).mpr⟩
theorem IsR.unique {φ : Kf k F} {n : Nat} {R R' : List (List Nb)} {ls ls' : List Nat} (h : IsR φ n R ls) (h' : IsR φ n R' ls') (s1 : ∀ v, Span (RmN φ R) v → Span (RmN φ R') v) (s2 : ∀ v, Span (RmN φ R') v → Span (RmN φ R) v) : R = R' ∧ ls = ls' := by
  have e := h.rr.unique h'.rr (fun v q => h'.rows.mpr (s1 v (h.rows.mp q))) (fun v q => h.rows.mpr (s2 v (h'.rows.mp q)))
  have el := congrArg (List.map Prod.fst) e
  have er := congrArg (List.map Prod.snd) e
  rw [List.map_fst_zip (by rw [List.length_map]; exact Nat.le_of_eq h.len), List.map_fst_zip (by rw [List.length_map]; exact Nat.le_of_eq h'.len)] at el
  rw [List.map_snd_zip (by rw [List.length_map]; exact Nat.le_of_eq h.len.symm), List.map_snd_zip (by rw [List.length_map]; exact Nat.le_of_eq h'.len.symm)] at er
  refine ⟨?_, el⟩
  have hl : R.length = R'.length := by have := congrArg List.length er; simpa using this
  refine List.ext_getElem hl fun i h1 h2 => ?_
  have e2 : (R.map (nv φ))[i]'(by simpa using h1) = (R'.map (nv φ))[i]'(by simpa using h2) := by simp only [er]
  rw [List.getElem_map, List.getElem_map] at e2
  have o1 := h.ok _ (List.getElem_mem h1)
  have o2 := h'.ok _ (List.getElem_mem h2)
  exact nv_inj φ o1.2 o2.2 (by rw [o1.1, o2.1]) fun j => by rw [e2]
theorem RedOf.unique {φ : Kf k F} {n : Nat} {M M' R R' : List (List Nb)} {ls ls' : List Nat} (h : RedOf φ n M R ls) (h' : RedOf φ n M' R' ls') (s1 : ∀ v, Span (RmN φ M) v → Span (RmN φ M') v) (s2 : ∀ v, Span (RmN φ M') v → Span (RmN φ M) v) : R = R' :=
  (h.toIsR.unique h'.toIsR (fun v q => h'.to v (s1 v (h.fro v q))) (fun v q => h.to v (s2 v (h'.fro v q)))).1
theorem IsR.red {φ : Kf k F} {n : Nat} {R : List (List Nb)} {ls : List Nat} (h : IsR φ n R ls) : RedOf φ n R R ls := { h with to := fun _ q => q, fro := fun _ q => q }
/-- what the program makes of its rows of whole numbers -/
def overL (k : Int) (p : Nat × List Int) : List Nb := p.2.map fun w => ndiv k (nnum k w) (nnum k (p.2.getD p.1 0))
def redM (k : Int) (n : Nat) (Ws : List (List Int)) : List (List Nb) := (swTo k Ws n).1.map (overL k)
def leadsM (k : Int) (n : Nat) (Ws : List (List Int)) : List Nat := (swTo k Ws n).1.map (·.1)
theorem redM_of (φ : Kf k F) (hk : KindOk k) {n : Nat} {M : List (List Nb)} {Ws : List (List Int)} (ok : OkM k n M) (hl : Ws.length = M.length) (hs : ∀ (i : Nat) (r : List Nb) (ws : List Int), M[i]? = some r → Ws[i]? = some ws → ∃ b, Scl k r ws b) :
    RedOf φ n M (redM k n Ws) (leadsM k n Ws) := by
  have k0 := hk.lt.1
  have pair : ∀ ws ∈ Ws, ∃ r ∈ M, ∃ b, Scl k r ws b := fun ws hw => by
    obtain ⟨i, hi, e⟩ := List.getElem_of_mem hw
    have h2 : i < M.length := by omega
    exact ⟨M[i], List.getElem_mem h2, hs i M[i] ws (List.getElem?_eq_getElem h2) (by rw [List.getElem?_eq_getElem hi, e])⟩
  have pair2 : ∀ r ∈ M, ∃ ws ∈ Ws, ∃ b, Scl k r ws b := fun r hr => by
    obtain ⟨i, hi, e⟩ := List.getElem_of_mem hr
    have h2 : i < Ws.length := by omega
    exact ⟨Ws[i], List.getElem_mem h2, hs i r Ws[i] (by rw [List.getElem?_eq_getElem hi, e]) (List.getElem?_eq_getElem h2)⟩
  have wl : ∀ ws ∈ Ws, ws.length = n := fun ws hw => by
    obtain ⟨r, hr, b, s⟩ := pair ws hw
    rw [s.len, (ok r hr).1]
  obtain ⟨rr, s1, s2⟩ := swept_rr φ k0 wl
  have sp1 : ∀ v, Span (RmI F Ws) v → Span (RmN φ M) v := fun v q => q.bind fun u ⟨ws, hw, e⟩ => by
    obtain ⟨r, hr, b, s⟩ := pair ws hw
    have : Span (RmN φ M) (nv φ r) := .of ⟨r, hr, rfl⟩
    exact (this.smul (ι b)).cast fun j => by rw [e, s.fv φ (ok r hr).2]; grind
  have sp2 : ∀ v, Span (RmN φ M) v → Span (RmI F Ws) v := fun v q => q.bind fun u ⟨r, hr, e⟩ => by
    obtain ⟨ws, hw, b, s⟩ := pair2 r hr
    have : Span (RmI F Ws) (La.fv ws) := .of ⟨ws, hw, rfl⟩
    have n := s.ne φ hk
    exact (this.smul (1 / ι b)).cast fun j => by rw [e, s.fv φ (ok r hr).2]; grind
  have rowv : ∀ p ∈ (swTo k Ws n).1, (nv φ (overL k p) : Nat → F) = fun j => fv p.2 j / fv p.2 p.1 := fun p hp => by
    obtain ⟨p1, p2, p3, p4⟩ := swept_lead φ k0 wl hp
    have fine := Fine.to k0 wl n
    have ln : (ι (p.2.getD p.1 0) : F) ≠ 0 := fun z => p3 ((fv_zero φ (fine.df p hp) p.1).mp z)
    funext j
    rcases Nat.lt_or_ge j p.2.length with g | g
    · have e : (overL k p)[j]? = some (ndiv k (nnum k p.2[j]) (nnum k (p.2.getD p.1 0))) := by unfold overL; rw [List.getElem?_map, List.getElem?_eq_getElem g]; rfl
      rw [nv_get φ e, φ.div (nnum_ok hk _) (nnum_ok hk _) (nnum_ne φ ln), φ.num, φ.num]
      show _ = fv p.2 j / fv p.2 p.1
      unfold fv
      rw [List.getD_eq_getElem?_getD (l := p.2) (i := j), List.getElem?_eq_getElem g]; rfl
    · rw [nv_out φ (by unfold overL; rw [List.length_map]; exact g)]
      show _ = fv p.2 j / fv p.2 p.1
      rw [fv_out g]; grind
  have zz : (leadsM k n Ws).zip ((redM k n Ws).map (nv φ)) = (swTo k Ws n).1.map fun p => (p.1, fun j => (fv p.2 j / fv p.2 p.1 : F)) := by
    unfold leadsM redM
    rw [List.map_map, List.zip_map', List.map_inj_left]
    intro p hp
    show (p.1, nv φ (overL k p)) = _
    rw [rowv p hp]
  have hlen : (leadsM k n Ws).length = (redM k n Ws).length := by unfold leadsM redM; rw [List.length_map, List.length_map]
  refine ⟨⟨fun r hr => ?_, hlen, by rw [zz]; exact rr⟩, fun v q => ?_, fun v q => ?_⟩
  · obtain ⟨p, hp, rfl⟩ := List.mem_map.mp hr
    obtain ⟨p1, p2, p3, p4⟩ := swept_lead φ k0 wl hp
    refine ⟨by unfold overL; rw [List.length_map]; exact p2, fun x hx => ?_⟩
    obtain ⟨w, _, rfl⟩ := List.mem_map.mp hx
    exact zdiv_ok hk (nnum_ok hk _) (nnum_ok hk _)
  · have := s2 v (sp2 v q)
    rw [← zz] at this
    exact this.mono fun u => (rows_iff hlen u).mp
  · refine sp1 v (s1 v ?_)
    rw [← zz]
    exact q.mono fun u => (rows_iff hlen u).mpr
end
end La

namespace La
open Lean.Grind Nm
section
variable {k : Int}
theorem gcdL_snoc (l : List Int) (w : Int) : gcdL (l ++ [w]) = Nat.gcd (gcdL l) w.natAbs := by unfold gcdL; rw [List.foldl_append]; rfl
theorem gcdL_app_dvd (l l' : List Int) : gcdL (l ++ l') ∣ gcdL l := by unfold gcdL; rw [List.foldl_append]; exact (gcd_fold_dvd l' _).1
theorem gcdL_one {ws : List Int} {i : Nat} (h : gcdL (ws.take i) = 1) : gcdL ws = 1 := by
  have := gcdL_app_dvd (ws.take i) (ws.drop i)
  rw [List.take_append_drop, h] at this
  exact Nat.dvd_one.mp this
theorem easedM_one {ws : List Int} (h : gcdL ws = 1) : easedM 0 ws = ws := by
  unfold easedM
  rw [if_neg (by simp), if_neg (by omega), h]
  have : (fun w : Int => w.fdiv ((1 : Nat) : Int)) = id := funext fun w => Int.fdiv_one w
  rw [this, List.map_id]
theorem easedM_nil {ws : List Int} (h : gcdL ws = 0) : easedM 0 ws = ws := by
  unfold easedM
  rw [if_neg (by simp), if_pos h]
theorem easedM_div {ws : List Int} (h : gcdL ws ≠ 0) : easedM 0 ws = ws.map fun w => w.fdiv ((gcdL ws : Nat) : Int) := by
  unfold easedM
  rw [if_neg (by simp), if_neg h]
theorem easedM_mod (h : k ≠ 0) (ws : List Int) : easedM k ws = ws.map (·.fmod k) := by
  unfold easedM
  rw [if_pos h]
theorem swTo_len (rows : List (List Int)) : ∀ c, (swTo k rows c).1.length + (swTo k rows c).2.length = rows.length
  | 0 => by show 0 + (rows.map (easedM k)).length = _; rw [List.length_map]; omega
  | c + 1 => by
    have ih := swTo_len rows c
    show (swTurn k c (swTo k rows c)).1.length + (swTurn k c (swTo k rows c)).2.length = _
    generalize swTo k rows c = s at ih
    unfold swTurn
    cases e : s.2.filter (fun r => decide (r.getD c 0 ≠ 0)) with
    | nil => exact ih
    | cons l rest =>
      show (s.1.map _ ++ [(c, l)]).length + (s.2.filter _ ++ rest.map _).length = _
      have h1 : (s.2.filter (fun r => decide (r.getD c 0 ≠ 0))).length = rest.length + 1 := by rw [e]; rfl
      have h2 : ∀ l : List (List Int), (l.filter (fun r => decide (r.getD c 0 ≠ 0))).length + (l.filter (fun r => decide (r.getD c 0 = 0))).length = l.length := by
        intro l
        induction l with
        | nil => rfl
        | cons x l ih =>
          rw [List.filter_cons, List.filter_cons]
          by_cases z : x.getD c 0 = 0
          · simp only [z, ne_eq, not_true_eq_false, decide_false, decide_true, if_true, List.length_cons]
            simp only [Bool.false_eq_true, if_false]
            simp only [ne_eq] at ih
            omega
          · simp only [z, ne_eq, not_false_eq_true, decide_false, decide_true, if_true, List.length_cons]
            simp only [Bool.false_eq_true, if_false]
            simp only [ne_eq] at ih
            omega
      have h3 := h2 s.2
      simp only [List.length_append, List.length_map, List.length_cons, List.length_nil]
      omega
theorem swTo_nil : ∀ c, swTo k [] c = ([], [])
  | 0 => rfl
  | c + 1 => by
    show swTurn k c (swTo k [] c) = _
    rw [swTo_nil c]; rfl
/-- a filter one on -/
theorem filter_snoc {α : Type} {l : List α} {i : Nat} {x : α} (p : α → Bool) (h : l[i]? = some x) : (l.take (i + 1)).filter p = (l.take i).filter p ++ (if p x = true then [x] else []) := by
  obtain ⟨hi, e⟩ := List.getElem?_eq_some_iff.mp h
  rw [List.take_succ_eq_append_getElem hi, List.filter_append, e, List.filter_cons, List.filter_nil]
/-- the first number that is not nought -/
theorem first_of {ws : List Int} {p : Nat} (hp : p < ws.length) (hz : ∀ j, j < p → ws.getD j 0 = 0) (hn : ws.getD p 0 ≠ 0) : (ws.filter fun w => decide (w ≠ 0))[0]? = some (ws.getD p 0) := by
  induction ws generalizing p with
  | nil => simp at hp
  | cons w ws ih =>
    cases p with
    | zero =>
      have h : w ≠ 0 := by simpa using hn
      rw [List.filter_cons, if_pos (by simpa using h)]
      simp
    | succ p =>
      have h0 : w = 0 := by simpa using hz 0 (Nat.succ_pos p)
      rw [List.filter_cons, if_neg (by simp [h0])]
      have := ih (p := p) (by simpa using hp) (fun j hj => by have := hz (j + 1) (by omega); simpa using this) (by simpa using hn)
      rw [this]; simp
end
end La

namespace La
open Lean.Grind Nm
/-! ### numbers over a known bottom: how row turns let them grow -/
def dB (D B : Nat) : Nb → Prop
  | .q r => ∃ a : Int, r * ((D : Int) : Rat) = ((a : Int) : Rat) ∧ a.natAbs ≤ B
  | .z _ => True
theorem dB.mul {k : Int} {D B D' B' : Nat} {x y : Nb} (hx : dB D B x) (hy : dB D' B' y) (ox : x.ok k) (oy : y.ok k) : dB (D * D') (B * B') (nmul k x y) := by
  cases x with
  | q r =>
    cases y with
    | q s =>
      obtain ⟨a, ea, ha⟩ := hx
      obtain ⟨b, eb, hb⟩ := hy
      refine ⟨a * b, ?_, ?_⟩
      · have e1 : (((D * D' : Nat) : Int) : Rat) = ((D : Int) : Rat) * ((D' : Int) : Rat) := by rw [Int.natCast_mul, Rat.intCast_mul]
        rw [e1, Rat.intCast_mul, ← ea, ← eb]
        grind
      · rw [Int.natAbs_mul]; exact Nat.mul_le_mul ha hb
    | z j => exact absurd (show k = 0 from ox) oy.1
  | z i =>
    cases y with
    | q s => exact absurd (show k = 0 from oy) ox.1
    | z j => trivial
theorem dB.add {k : Int} {D B B' : Nat} {x y : Nb} (hx : dB D B x) (hy : dB D B' y) (ox : x.ok k) (oy : y.ok k) : dB D (B + B') (nadd k x y) := by
  cases x with
  | q r =>
    cases y with
    | q s =>
      obtain ⟨a, ea, ha⟩ := hx
      obtain ⟨b, eb, hb⟩ := hy
      refine ⟨a + b, ?_, ?_⟩
      · rw [Rat.intCast_add, ← ea, ← eb]
        grind
      · have := Int.natAbs_add_le a b; omega
    | z j => exact absurd (show k = 0 from ox) oy.1
  | z i =>
    cases y with
    | q s => exact absurd (show k = 0 from oy) ox.1
    | z j => trivial
theorem dB.up {D B : Nat} {x : Nb} (hx : dB D B x) (e c : Nat) (he : e ≤ c) : dB (e * D) (c * B) x := by
  cases x with
  | q r =>
    obtain ⟨a, ea, ha⟩ := hx
    refine ⟨(e : Int) * a, ?_, ?_⟩
    · have e1 : (((e * D : Nat) : Int) : Rat) = ((e : Int) : Rat) * ((D : Int) : Rat) := by rw [Int.natCast_mul, Rat.intCast_mul]
      rw [e1, Rat.intCast_mul, ← ea]
      grind
    · rw [Int.natAbs_mul, Int.natAbs_natCast]
      exact Nat.mul_le_mul he ha
  | z i => trivial
theorem dB.mono {D B B' : Nat} {x : Nb} (hx : dB D B x) (h : B ≤ B') : dB D B' x := by
  cases x with
  | q r => obtain ⟨a, ea, ha⟩ := hx; exact ⟨a, ea, Nat.le_trans ha h⟩
  | z i => trivial
/-- a whole number -/
theorem dB.num {k w : Int} {D B : Nat} (h : w.natAbs * D ≤ B) : dB D B (nnum k w) := by
  unfold nnum
  split
  · refine ⟨w * D, by rw [Rat.intCast_mul], ?_⟩
    rw [Int.natAbs_mul, Int.natAbs_natCast]; exact h
  · trivial
/-- t over b, where b divides the bottom -/
theorem dB.frac {t b : Int} {D B : Nat} (hb : b ≠ 0) (c : Int) (hd : b * c = (D : Int)) (h : (t * c).natAbs ≤ B) : dB D B (.q (Rat.divInt t b)) := by
  refine ⟨t * c, ?_, h⟩
  have n : ((b : Int) : Rat) ≠ 0 := fun z => hb (Rat.intCast_eq_zero_iff.mp z)
  rw [Rat.divInt_eq_div, ← hd, Rat.intCast_mul, Rat.intCast_mul]
  grind
theorem dB.parts {r : Rat} {D B : Nat} (hD : D ≠ 0) (h : dB D B (.q r)) : r.den ≤ D ∧ r.num.natAbs ≤ B := by
  obtain ⟨a, ea, ha⟩ := h
  have e0 := kfRat.rat r rfl
  have e0' : r * ((r.den : Int) : Rat) = ((r.num : Int) : Rat) := e0
  have e1 : r.num * (D : Int) = a * (r.den : Int) := by
    have : ((r.num * (D : Int) : Int) : Rat) = ((a * (r.den : Int) : Int) : Rat) := by
      rw [Rat.intCast_mul, Rat.intCast_mul, ← e0', ← ea]
      grind
    exact Rat.intCast_inj.mp this
  have e2 : r.num.natAbs * D = a.natAbs * r.den := by
    have := congrArg Int.natAbs e1
    rw [Int.natAbs_mul, Int.natAbs_mul, Int.natAbs_natCast, Int.natAbs_natCast] at this
    exact this
  have cop : Nat.Coprime r.den r.num.natAbs := (Nat.coprime_comm.mp r.reduced)
  have dv : r.den ∣ D := cop.dvd_of_dvd_mul_left ⟨a.natAbs, by rw [e2, Nat.mul_comm]⟩
  have le : r.den ≤ D := Nat.le_of_dvd (by omega) dv
  refine ⟨le, ?_⟩
  have h1 : r.num.natAbs * D ≤ a.natAbs * D := by rw [e2]; exact Nat.mul_le_mul_left _ le
  have h2 : r.num.natAbs ≤ a.natAbs := Nat.le_of_mul_le_mul_right h1 (by omega)
  omega
/-! ### row turns keep the room -/
section
variable {k : Int} {F : Type} [Field F]
def SameRm (k : Int) (M N : List (List Nb)) : Prop := ∀ (F : Type) [Field F] (φ : Kf k F) (v : Nat → F), Span (RmN φ M) v ↔ Span (RmN φ N) v
theorem SameRm.refl (M : List (List Nb)) : SameRm k M M := fun F _ φ v => Iff.rfl
theorem SameRm.trans {L M N : List (List Nb)} (h : SameRm k L M) (g : SameRm k M N) : SameRm k L N := fun F _ φ v => (h F φ v).trans (g F φ v)
theorem SameRm.of {M N : List (List Nb)} (h1 : ∀ (F : Type) [Field F] (φ : Kf k F), ∀ r ∈ M, Span (RmN φ N) (nv φ r)) (h2 : ∀ (F : Type) [Field F] (φ : Kf k F), ∀ r ∈ N, Span (RmN φ M) (nv φ r)) : SameRm k M N := fun F _ φ v =>
  ⟨fun q => q.bind fun u ⟨r, hr, e⟩ => by rw [e]; exact h1 F φ r hr, fun q => q.bind fun u ⟨r, hr, e⟩ => by rw [e]; exact h2 F φ r hr⟩
theorem mem_set_or {α : Type} {l : List α} {i : Nat} {x y : α} (h : y ∈ l.set i x) : y = x ∨ y ∈ l := by
  rcases List.mem_or_eq_of_mem_set h with h | h
  · exact .inr h
  · exact .inl h
theorem mem_set_of {α : Type} {l : List α} {i : Nat} {x y z : α} (hz : l[i]? = some z) (h : y ∈ l) : y = z ∨ y ∈ l.set i x := by
  obtain ⟨j, hj, e⟩ := List.getElem_of_mem h
  by_cases ij : j = i
  · subst ij
    rw [List.getElem?_eq_getElem hj] at hz
    exact .inl (e.symm.trans (Option.some.inj hz))
  · refine .inr (List.mem_of_getElem? (i := j) ?_)
    rw [List.getElem?_set_ne (Ne.symm ij), List.getElem?_eq_getElem hj, e]
theorem SameRm.set {M : List (List Nb)} {i : Nat} {x y : List Nb} (hi : M[i]? = some x) (h1 : ∀ (F : Type) [Field F] (φ : Kf k F), Span (RmN φ (M.set i y)) (nv φ x)) (h2 : ∀ (F : Type) [Field F] (φ : Kf k F), Span (RmN φ M) (nv φ y)) : SameRm k M (M.set i y) :=
  SameRm.of (fun F _ φ r hr => by
    rcases mem_set_of (x := y) hi hr with e | h
    · rw [e]; exact h1 F φ
    · exact .of ⟨r, h, rfl⟩) (fun F _ φ r hr => by
    rcases mem_set_or hr with e | h
    · rw [e]; exact h2 F φ
    · exact .of ⟨r, h, rfl⟩)
theorem getElem?_set_self' {α : Type} {l : List α} {i : Nat} {x z : α} (h : l[i]? = some z) : (l.set i x)[i]? = some x := by
  rw [List.getElem?_set_self (List.getElem?_eq_some_iff.mp h).1]
theorem nv_map {φ : Kf k F} {f : Nb → Nb} {xs : List Nb} (g : F → F) (h0 : g 0 = 0) (h : ∀ x ∈ xs, φ.to (f x) = g (φ.to x)) (j : Nat) : nv φ (xs.map f) j = g (nv φ xs j) := by
  rcases Nat.lt_or_ge j xs.length with l | l
  · rw [nv_get φ (x := f xs[j]) (by rw [List.getElem?_map, List.getElem?_eq_getElem l]; rfl), nv_get φ (List.getElem?_eq_getElem l), h _ (List.getElem_mem l)]
  · rw [nv_out φ (by rw [List.length_map]; exact l), nv_out φ l, h0]
/-- a row times a number that is not nought -/
theorem SameRm.scale (hk : KindOk k) {M : List (List Nb)} {i : Nat} {x : List Nb} {c : Nb} (hi : M[i]? = some x) (ox : OkR k x) (oc : c.ok k) (nc : c ≠ nnum k 0) : SameRm k M (M.set i (x.map (nmul k c))) := by
  have e : ∀ (F : Type) [Field F] (φ : Kf k F) (j : Nat), nv φ (x.map (nmul k c)) j = φ.to c * nv φ x j := fun F _ φ j => nv_map (fun y => φ.to c * y) (by grind) (fun y hy => φ.mul oc (ox y hy)) j
  refine SameRm.set hi (fun F _ φ => ?_) (fun F _ φ => ?_)
  · have n : φ.to c ≠ 0 := fun z => nc ((φ.zero_iff hk oc).mp z)
    have h : Span (RmN φ (M.set i (x.map (nmul k c)))) (nv φ (x.map (nmul k c))) := .of ⟨_, List.mem_of_getElem? (getElem?_set_self' hi), rfl⟩
    exact (h.smul (1 / φ.to c)).cast fun j => by rw [e F φ j]; grind
  · have h : Span (RmN φ M) (nv φ x) := .of ⟨x, List.mem_of_getElem? hi, rfl⟩
    exact (h.smul (φ.to c)).cast fun j => (e F φ j).symm
/-- two rows exchanged -/
theorem SameRm.swap {M : List (List Nb)} {i j : Nat} {x y : List Nb} (hi : M[i]? = some x) (hj : M[j]? = some y) : SameRm k M ((M.set i y).set j x) := by
  have hj2 : ∃ z, (M.set i y)[j]? = some z ∧ z = y := by
    by_cases e : i = j
    · subst e
      exact ⟨y, getElem?_set_self' hi, rfl⟩
    · exact ⟨y, by rw [List.getElem?_set_ne e]; exact hj, rfl⟩
  obtain ⟨z, hz, rfl⟩ := hj2
  have mx : x ∈ (M.set i z).set j x := List.mem_of_getElem? (getElem?_set_self' hz)
  have my : z ∈ (M.set i z).set j x := by
    by_cases e : i = j
    · subst e
      rw [hi] at hj
      have : x = z := Option.some.inj hj
      rw [← this]
      rw [this] at mx ⊢
      exact mx
    · refine List.mem_of_getElem? (i := i) ?_
      rw [List.getElem?_set_ne (Ne.symm e)]
      exact getElem?_set_self' hi
  refine SameRm.of (fun F _ φ r hr => .of ⟨r, ?_, rfl⟩) (fun F _ φ r hr => .of ⟨r, ?_, rfl⟩)
  · rcases mem_set_of (x := z) hi hr with e | h
    · rw [e]; exact mx
    · rcases mem_set_of (x := x) hz h with e | h
      · rw [e]; exact my
      · exact h
  · rcases mem_set_or hr with e | h
    · rw [e]; exact List.mem_of_getElem? hi
    · rcases mem_set_or h with e | h
      · rw [e]; exact List.mem_of_getElem? hj
      · exact h
theorem nv_zip {φ : Kf k F} {f : Nb → Nb → Nb} {xs ys : List Nb} (hl : xs.length = ys.length) (g : F → F → F) (h0 : g 0 0 = 0) (h : ∀ x ∈ xs, ∀ y ∈ ys, φ.to (f x y) = g (φ.to x) (φ.to y)) (j : Nat) : nv φ (List.zipWith f xs ys) j = g (nv φ xs j) (nv φ ys j) := by
  rcases Nat.lt_or_ge j xs.length with l | l
  · have l2 : j < ys.length := by omega
    rw [nv_get φ (x := f xs[j] ys[j]) (by rw [List.getElem?_zipWith, List.getElem?_eq_getElem l, List.getElem?_eq_getElem l2]), nv_get φ (List.getElem?_eq_getElem l), nv_get φ (List.getElem?_eq_getElem l2), h _ (List.getElem_mem l) _ (List.getElem_mem l2)]
  · rw [nv_out φ (by rw [List.length_zipWith]; omega), nv_out φ l, nv_out φ (by omega), h0]
/-- a multiple of another row put to one -/
theorem SameRm.put (hk : KindOk k) {M : List (List Nb)} {i j : Nat} {x y : List Nb} {c : Nb} (hi : M[i]? = some x) (hj : M[j]? = some y) (ne : i ≠ j) (ox : OkR k x) (oy : OkR k y) (hl : x.length = y.length) (oc : c.ok k) : SameRm k M (M.set i (List.zipWith (fun a b => nadd k a (nmul k c b)) x y)) := by
  have e : ∀ (F : Type) [Field F] (φ : Kf k F) (l : Nat), nv φ (List.zipWith (fun a b => nadd k a (nmul k c b)) x y) l = nv φ x l + φ.to c * nv φ y l := fun F _ φ l =>
    nv_zip hl (fun a b => a + φ.to c * b) (by grind) (fun a ha b hb => by rw [φ.add (ox a ha) (zmul_ok hk oc (oy b hb)), φ.mul oc (oy b hb)]) l
  refine SameRm.set hi (fun F _ φ => ?_) (fun F _ φ => ?_)
  · have h1 : Span (RmN φ (M.set i (List.zipWith (fun a b => nadd k a (nmul k c b)) x y))) (nv φ (List.zipWith (fun a b => nadd k a (nmul k c b)) x y)) := .of ⟨_, List.mem_of_getElem? (getElem?_set_self' hi), rfl⟩
    have h2 : Span (RmN φ (M.set i (List.zipWith (fun a b => nadd k a (nmul k c b)) x y))) (nv φ y) := .of ⟨y, List.mem_of_getElem? (i := j) (by rw [List.getElem?_set_ne ne]; exact hj), rfl⟩
    exact (h1.lin 1 (-φ.to c) h2).cast fun l => by rw [e F φ l]; grind
  · have h1 : Span (RmN φ M) (nv φ x) := .of ⟨x, List.mem_of_getElem? hi, rfl⟩
    have h2 : Span (RmN φ M) (nv φ y) := .of ⟨y, List.mem_of_getElem? hj, rfl⟩
    exact (h1.lin 1 (φ.to c) h2).cast fun l => by rw [e F φ l]; grind
/-- a row of noughts behind -/
theorem SameRm.nought {M : List (List Nb)} {n : Nat} : SameRm k M (M ++ [List.replicate n (nnum k 0)]) :=
  SameRm.of (fun F _ φ r hr => .of ⟨r, List.mem_append_left _ hr, rfl⟩) (fun F _ φ r hr => by
    rcases List.mem_append.mp hr with h | h
    · exact .of ⟨r, h, rfl⟩
    · rw [List.mem_singleton.mp h]
      refine Span.zero.cast fun j => ?_
      rcases Nat.lt_or_ge j n with l | l
      · rw [nv_get φ (x := nnum k 0) (by rw [List.getElem?_replicate, if_pos l]), φ.num0]
      · rw [nv_out φ (by rw [List.length_replicate]; exact l)])
/-- the reduced form is one -/
theorem red_eq (hk : KindOk k) {n : Nat} {M R D : List (List Nb)} {ls ld : List Nat} (h : ∀ (F : Type) [Field F] (φ : Kf k F), RedOf φ n M R ls) (hD : ∀ (F : Type) [Field F] (φ : Kf k F), IsR φ n D ld) (s : SameRm k D M) : R = D := by
  obtain ⟨F, _, _, ⟨φ⟩⟩ := field_of hk
  exact (h F φ).unique (hD F φ).red (fun v q => (s F φ v).mpr q) (fun v q => (s F φ v).mp q)
end
end La

namespace La
open Lean.Grind Nm
section
variable {k : Int} {F : Type} [Field F]
theorem dot_one {n l : Nat} {u v : Nat → F} (hl : l < n) (h : ∀ j, j < n → j ≠ l → u j * v j = 0) : dot n u v = u l * v l := by
  induction n with
  | zero => exact absurd hl (Nat.not_lt_zero l)
  | succ n ih =>
    simp only [dot]
    by_cases e : l = n
    · subst e
      rw [dot_zero l u v fun j hj => h j (by omega) (by omega)]; grind
    · rw [ih (by omega) fun j hj ne => h j (by omega) ne, h n (by omega) (Ne.symm e)]; grind
theorem dot_add_r (n : Nat) (u v w : Nat → F) : dot n u (fun j => v j + w j) = dot n u v + dot n u w := by
  rw [dot_comm, dot_add, dot_comm n v, dot_comm n w]
theorem dot_smul_r (a : F) (n : Nat) (u v : Nat → F) : dot n u (fun j => a * v j) = a * dot n u v := by
  rw [dot_comm, dot_smul, dot_comm n v]
/-- a sum of products that is nought with each row is nought with all in the room -/
theorem Span.dot_zero {S : (Nat → F) → Prop} {n : Nat} {x v : Nat → F} (h : Span S v) (z : ∀ r, S r → dot n r x = 0) : dot n v x = 0 :=
  h.all (P := fun v => dot n v x = 0) (La.dot_zero n _ _ fun j _ => by grind) fun c r v hr hv => by
    rw [dot_add n (fun j => c * r j) v x, dot_smul, z r hr, hv]; grind
/-! ### rows with one number more -/
def augR (A : List (List Nb)) (b : List Nb) : List (List Nb) := List.zipWith (fun r x => r ++ [x]) A b
theorem augR_ok {n : Nat} {A : List (List Nb)} {b : List Nb} (oA : OkM k n A) (ob : OkR k b) : OkM k (n + 1) (augR A b) := fun r hr => by
  unfold augR at hr
  obtain ⟨i, hi, e⟩ := List.getElem_of_mem hr
  rw [List.getElem_zipWith] at e
  rw [← e]
  have o := oA _ (List.getElem_mem (l := A) (n := i) (by rw [List.length_zipWith] at hi; omega))
  refine ⟨by rw [List.length_append, o.1]; rfl, fun x hx => ?_⟩
  rcases List.mem_append.mp hx with h | h
  · exact o.2 x h
  · rw [List.mem_singleton.mp h]
    exact ob _ (List.getElem_mem _)
theorem nv_app (φ : Kf k F) {r : List Nb} {x : Nb} {n : Nat} (hr : r.length = n) (j : Nat) : nv φ (r ++ [x]) j = if j < n then nv φ r j else if j = n then φ.to x else 0 := by
  subst hr
  split
  · rename_i h
    rw [nv_get φ (x := r[j]) (by rw [List.getElem?_append_left h, List.getElem?_eq_getElem h]), nv_get φ (List.getElem?_eq_getElem h)]
  · rename_i h
    split
    · rename_i e
      subst e
      rw [nv_get φ (x := x) (by rw [List.getElem?_append_right (Nat.le_refl _)]; simp)]
    · exact nv_out φ (by rw [List.length_append]; show r.length + 1 ≤ j; omega)
/-- x: what is told, and a nought less one behind -/
def ext (n : Nat) (x : Nat → F) : Nat → F := fun j => if j < n then x j else if j = n then -1 else 0
theorem dot_ext (n : Nat) (v x : Nat → F) : dot (n + 1) v (ext n x) = dot n v x - v n := by
  simp only [dot]
  have e : dot n v (ext n x) = dot n v x := dot_congr fun j hj => by unfold ext; rw [if_pos hj]
  rw [e]
  have : ext n x n = (-1 : F) := by unfold ext; rw [if_neg (Nat.lt_irrefl n), if_pos rfl]
  rw [this]; grind
/-- A x = b -/
def Sol (φ : Kf k F) (n : Nat) (A : List (List Nb)) (b : List Nb) (x : Nat → F) : Prop := ∀ (i : Nat) (a : List Nb) (bi : Nb), A[i]? = some a → b[i]? = some bi → dot n (nv φ a) x = φ.to bi
theorem sol_iff (φ : Kf k F) {n : Nat} {A : List (List Nb)} {b : List Nb} (oA : OkM k n A) (x : Nat → F) : Sol φ n A b x ↔ ∀ r, RmN φ (augR A b) r → dot (n + 1) r (ext n x) = 0 := by
  have key : ∀ (a : List Nb) (bi : Nb), a.length = n → dot (n + 1) (nv φ (a ++ [bi])) (ext n x) = dot n (nv φ a) x - φ.to bi := fun a bi ha => by
    rw [dot_ext]
    have e1 : dot n (nv φ (a ++ [bi])) x = dot n (nv φ a) x := dot_congr fun j hj => by rw [nv_app φ ha, if_pos hj]
    have e2 : nv φ (a ++ [bi]) n = φ.to bi := by rw [nv_app φ ha, if_neg (Nat.lt_irrefl n), if_pos rfl]
    rw [e1, e2]
  constructor
  · rintro h r ⟨row, hrow, rfl⟩
    unfold augR at hrow
    obtain ⟨i, hi, e⟩ := List.getElem_of_mem hrow
    rw [List.length_zipWith] at hi
    rw [List.getElem_zipWith] at e
    have h1 : i < A.length := by omega
    have h2 : i < b.length := by omega
    rw [← e, key _ _ (oA _ (List.getElem_mem h1)).1, h i A[i] b[i] (List.getElem?_eq_getElem h1) (List.getElem?_eq_getElem h2)]
    grind
  · intro h i a bi ha hb
    have hm : a ++ [bi] ∈ augR A b := List.mem_of_getElem? (i := i) (by unfold augR; rw [List.getElem?_zipWith, ha, hb])
    have := h _ ⟨_, hm, rfl⟩
    rw [key a bi (oA a (List.mem_of_getElem? ha)).1] at this
    grind
/-- what is told of the reduced rows: at each lead the row's last number, else nought -/
structure Told (k : Int) (n : Nat) (R : List (List Nb)) (ls : List Nat) (x : List Nb) : Prop where
  len : x.length = n
  at_ : ∀ (i l : Nat) (r : List Nb) (s : Nb), ls[i]? = some l → R[i]? = some r → r[n]? = some s → x[l]? = some s
  off : ∀ j, j < n → j ∉ ls → x[j]? = some (nnum k 0)
theorem zip_mem {α β : Type} {xs : List α} {ys : List β} {i : Nat} {a : α} {b : β} (h1 : xs[i]? = some a) (h2 : ys[i]? = some b) : (a, b) ∈ xs.zip ys :=
  List.mem_of_getElem? (i := i) (by rw [List.getElem?_zip_eq_some]; exact ⟨h1, h2⟩)
theorem told_sol (φ : Kf k F) {n : Nat} {A R : List (List Nb)} {b x : List Nb} {ls : List Nat} (oA : OkM k n A) (red : RedOf φ (n + 1) (augR A b) R ls) (no : n ∉ ls) (t : Told k n R ls x) : Sol φ n A b (nv φ x) := by
  rw [sol_iff φ oA]
  intro r hr
  have hs : Span (RmN φ R) r := red.to r (.of hr)
  refine hs.dot_zero fun u ⟨row, hrow, e⟩ => ?_
  obtain ⟨i, hi, ei⟩ := List.getElem_of_mem hrow
  have h1 : i < ls.length := by rw [red.len]; exact hi
  have hp := zip_mem (xs := ls) (ys := R.map (nv φ)) (i := i) (a := ls[i]) (b := nv φ row) (List.getElem?_eq_getElem h1) (by rw [List.getElem?_map, List.getElem?_eq_getElem hi, ei]; rfl)
  have lt := red.rr.lt _ hp
  have ln : ls[i] < n := by
    have : ls[i] ≠ n := fun z => no (by rw [← z]; exact List.getElem_mem h1)
    have : ls[i] < n + 1 := lt
    omega
  have rl := (red.ok row hrow).1
  rw [e, dot_ext]
  obtain ⟨s, hs⟩ : ∃ s, row[n]? = some s := ⟨row[n], List.getElem?_eq_getElem (by omega)⟩
  have xs := t.at_ i ls[i] row s (List.getElem?_eq_getElem h1) (by rw [List.getElem?_eq_getElem hi, ei]) hs
  rw [dot_one (l := ls[i]) ln fun j hj ne => ?_]
  · have o : nv φ row ls[i] = 1 := red.rr.one _ hp
    rw [o, nv_get φ xs, nv_get φ hs]; grind
  · by_cases hm : j ∈ ls
    · obtain ⟨i', hi', e'⟩ := List.getElem_of_mem hm
      have hi2 : i' < R.length := by rw [← red.len]; exact hi'
      have hq := zip_mem (xs := ls) (ys := R.map (nv φ)) (i := i') (a := j) (b := nv φ R[i']) (by rw [List.getElem?_eq_getElem hi', e']) (by rw [List.getElem?_map, List.getElem?_eq_getElem hi2]; rfl)
      have : nv φ row j = 0 := red.rr.oth _ hp _ hq (Ne.symm ne)
      rw [this]; grind
    · rw [nv_get φ (t.off j hj hm), φ.num0]; grind
/-- a lead in the last column: no x is -/
theorem none_sol (φ : Kf k F) {n : Nat} {A R : List (List Nb)} {b : List Nb} {ls : List Nat} (oA : OkM k n A) (red : RedOf φ (n + 1) (augR A b) R ls) (yes : n ∈ ls) (x : Nat → F) : ¬ Sol φ n A b x := fun h => by
  rw [sol_iff φ oA] at h
  obtain ⟨i, hi, ei⟩ := List.getElem_of_mem yes
  have h2 : i < R.length := by rw [← red.len]; exact hi
  have hp := zip_mem (xs := ls) (ys := R.map (nv φ)) (i := i) (a := n) (b := nv φ R[i]) (by rw [List.getElem?_eq_getElem hi, ei]) (by rw [List.getElem?_map, List.getElem?_eq_getElem h2]; rfl)
  have hs : Span (RmN φ (augR A b)) (nv φ R[i]) := red.fro _ (.of ⟨_, List.getElem_mem h2, rfl⟩)
  have z := hs.dot_zero h
  rw [dot_ext, La.dot_zero n _ _ fun j hj => ?_] at z
  · have o : nv φ R[i] n = 1 := red.rr.one _ hp
    rw [o] at z
    have := Field.zero_ne_one (α := F)
    grind
  · have : nv φ R[i] j = 0 := red.rr.bef _ hp j hj
    rw [this]; grind
/-! ### where no x is, some y is -/
def trF (n : Nat) (A : List (List Nb)) : List (List Nb) := (List.range n).map fun j => A.map fun r => r.getD j (.z 0)
def unitF (l : Nat) (c : F) : Nat → F := fun j => if j = l then c else 0
theorem dot_unit {n l : Nat} (hl : l < n) (u : Nat → F) (c : F) : dot n u (unitF l c) = c * u l := by
  rw [dot_one hl fun j hj ne => by unfold unitF; rw [if_neg ne]; grind]
  unfold unitF
  rw [if_pos rfl]; grind
theorem nv_tr (φ : Kf k F) {n j i : Nat} {A : List (List Nb)} {a : List Nb} (oA : OkM k n A) (hj : j < n) (ha : A[i]? = some a) : nv φ (A.map fun r => r.getD j (.z 0)) i = nv φ a j := by
  have la := (oA a (List.mem_of_getElem? ha)).1
  have hj' : j < a.length := by omega
  rw [nv_get φ (x := a.getD j (.z 0)) (by rw [List.getElem?_map, ha]; rfl), nv_get φ (List.getElem?_eq_getElem hj'), List.getD_eq_getElem?_getD, List.getElem?_eq_getElem hj']; rfl
theorem other_sol (φ : Kf k F) {n m : Nat} {A : List (List Nb)} {b : List Nb} (oA : OkM k n A) (lA : A.length = m) (lb : b.length = m) (ob : OkR k b) (no : ∀ x, ¬ Sol φ n A b x)
    {R : List (List Nb)} {ls : List Nat} (red : RedOf φ (m + 1) (augR (trF n A ++ [b]) (List.replicate n (nnum k 0) ++ [nnum k 1])) R ls) : m ∉ ls := fun yes => by
  -- each row in the room of the second rows is the image of some x and a multiple of b, that multiple behind it
  have key : ∀ v, Span (RmN φ (augR (trF n A ++ [b]) (List.replicate n (nnum k 0) ++ [nnum k 1]))) v → ∃ (x : Nat → F) (c : F), (∀ (i : Nat) (a : List Nb) (bi : Nb), A[i]? = some a → b[i]? = some bi → v i = dot n (nv φ a) x + c * φ.to bi) ∧ v m = c := fun v hv =>
    hv.all (P := fun v => ∃ (x : Nat → F) (c : F), (∀ (i : Nat) (a : List Nb) (bi : Nb), A[i]? = some a → b[i]? = some bi → v i = dot n (nv φ a) x + c * φ.to bi) ∧ v m = c)
      ⟨fun _ => 0, 0, fun i a bi _ _ => by rw [La.dot_zero n _ _ fun j _ => by grind]; grind, rfl⟩ fun c r v ⟨row, hrow, e⟩ ⟨x, d, h1, h2⟩ => by
        unfold augR at hrow
        obtain ⟨t, ht, et⟩ := List.getElem_of_mem hrow
        have ltr : (trF n A).length = n := by unfold trF; simp
        rw [List.length_zipWith, List.length_append, List.length_append, List.length_replicate, ltr] at ht
        rw [List.getElem_zipWith] at et
        have ht1 : t < n + 1 := by simp at ht; omega
        by_cases tn : t < n
        · have e1 : (trF n A ++ [b])[t]'(by rw [List.length_append, ltr]; exact ht1) = A.map fun r => r.getD t (.z 0) := by
            rw [List.getElem_append_left (by rw [ltr]; exact tn)]; unfold trF; simp
          have e2 : (List.replicate n (nnum k 0) ++ [nnum k 1])[t]'(by rw [List.length_append, List.length_replicate]; exact ht1) = nnum k 0 := by
            rw [List.getElem_append_left (by rw [List.length_replicate]; exact tn), List.getElem_replicate]
          rw [e1, e2] at et
          refine ⟨fun j => x j + unitF t c j, d, fun i a bi ha hb => ?_, ?_⟩
          · have hi : i < m := by rw [← lA]; exact (List.getElem?_eq_some_iff.mp ha).1
            show c * r i + v i = _
            rw [dot_add_r, dot_unit tn, h1 i a bi ha hb, e, ← et, nv_app φ (n := m) (by rw [List.length_map]; exact lA), if_pos hi, nv_tr φ oA tn ha]
            grind
          · show c * r m + v m = _
            rw [h2, e, ← et, nv_app φ (n := m) (by rw [List.length_map]; exact lA), if_neg (Nat.lt_irrefl m), if_pos rfl, φ.num0]; grind
        · have etn : t = n := by omega
          subst etn
          have e1 : (trF t A ++ [b])[t]'(by rw [List.length_append, ltr]; exact ht1) = b := by
            rw [List.getElem_append_right (by rw [ltr]; exact Nat.le_refl _)]; simp
          have e2 : (List.replicate t (nnum k 0) ++ [nnum k 1])[t]'(by rw [List.length_append, List.length_replicate]; exact ht1) = nnum k 1 := by
            rw [List.getElem_append_right (by rw [List.length_replicate]; exact Nat.le_refl _)]; simp
          rw [e1, e2] at et
          refine ⟨x, d + c, fun i a bi ha hb => ?_, ?_⟩
          · have hi : i < m := by rw [← lA]; exact (List.getElem?_eq_some_iff.mp ha).1
            show c * r i + v i = _
            rw [h1 i a bi ha hb, e, ← et, nv_app φ lb, if_pos hi, nv_get φ hb]
            grind
          · show c * r m + v m = _
            rw [h2, e, ← et, nv_app φ lb, if_neg (Nat.lt_irrefl m), if_pos rfl, φ.num1]; grind
  obtain ⟨i, hi, ei⟩ := List.getElem_of_mem yes
  have h2 : i < R.length := by rw [← red.len]; exact hi
  have hp := zip_mem (xs := ls) (ys := R.map (nv φ)) (i := i) (a := m) (b := nv φ R[i]) (by rw [List.getElem?_eq_getElem hi, ei]) (by rw [List.getElem?_map, List.getElem?_eq_getElem h2]; rfl)
  obtain ⟨x, c, h1, hc⟩ := key _ (red.fro _ (.of ⟨_, List.getElem_mem h2, rfl⟩))
  have o : nv φ R[i] m = 1 := red.rr.one _ hp
  refine no (fun j => -1 * x j) fun t a bi ha hb => ?_
  have ht : t < m := by rw [← lA]; exact (List.getElem?_eq_some_iff.mp ha).1
  have z : nv φ R[i] t = 0 := red.rr.bef _ hp t ht
  have q := h1 t a bi ha hb
  rw [z, ← hc, o] at q
  rw [dot_smul_r]
  grind
end
end La

namespace La
open Lean.Grind Nm
/-! ### rows over one bottom: sizes -/
/-- each number of the row is a whole number of at most B binary figures over D -/
def rowD (D B : Nat) (xs : List Nb) : Prop := ∀ x ∈ xs, dB D (2 ^ B - 1) x
def rowB (B : Nat) (xs : List Nb) : Prop := ∃ D : Nat, D ≠ 0 ∧ D < 2 ^ B ∧ rowD D B xs
def rowsB (B : Nat) (M : List (List Nb)) : Prop := ∀ r ∈ M, rowB B r
theorem rowB.mono {B C : Nat} {xs : List Nb} (h : rowB B xs) (hc : B ≤ C) : rowB C xs := by
  obtain ⟨D, d0, d1, hd⟩ := h
  have : 2 ^ B ≤ 2 ^ C := Nat.pow_le_pow_right (by decide) hc
  exact ⟨D, d0, by omega, fun x hx => (hd x hx).mono (by omega)⟩
theorem rowsB.mono {B C : Nat} {M : List (List Nb)} (h : rowsB B M) (hc : B ≤ C) : rowsB C M := fun r hr => (h r hr).mono hc
theorem rowsB.app {B : Nat} {M N : List (List Nb)} (h : rowsB B M) (g : rowsB B N) : rowsB B (M ++ N) := fun r hr => by
  rcases List.mem_append.mp hr with q | q
  · exact h r q
  · exact g r q
/-- the bottom divides every common one -/
theorem dB.den_dvd {D B : Nat} {r : Rat} (hD : D ≠ 0) (h : dB D B (.q r)) : (r.den : Int) ∣ (D : Int) := by
  obtain ⟨a, ea, ha⟩ := h
  have e0' : r * ((r.den : Int) : Rat) = ((r.num : Int) : Rat) := kfRat.rat r rfl
  have e1 : r.num * (D : Int) = a * (r.den : Int) := by
    have : ((r.num * (D : Int) : Int) : Rat) = ((a * (r.den : Int) : Int) : Rat) := by
      rw [Rat.intCast_mul, Rat.intCast_mul, ← e0', ← ea]
      grind
    exact Rat.intCast_inj.mp this
  have e2 : r.num.natAbs * D = a.natAbs * r.den := by
    have := congrArg Int.natAbs e1
    rw [Int.natAbs_mul, Int.natAbs_mul, Int.natAbs_natCast, Int.natAbs_natCast] at this
    exact this
  have cop : Nat.Coprime r.den r.num.natAbs := (Nat.coprime_comm.mp r.reduced)
  have dv : r.den ∣ D := cop.dvd_of_dvd_mul_left ⟨a.natAbs, by rw [e2, Nat.mul_comm]⟩
  exact Int.ofNat_dvd.mpr dv
/-- over a bottom that divides it the whole numbers are no greater -/
theorem scW_le {D B : Nat} {b : Int} {x : Nb} {k : Int} (hk : KindOk k) (ox : x.ok k) (h7 : 7 ≤ B) (hD : D ≠ 0) (h : dB D (2 ^ B - 1) x) (hb : 0 < b) (hx : dvB b x) (hd : k = 0 → b ∣ (D : Int)) : (scW b x).natAbs < 2 ^ B := by
  have p2 : 0 < 2 ^ B := Nat.pow_pos (by decide)
  cases x with
  | q r =>
    obtain ⟨a, ea, ha⟩ := h
    obtain ⟨e, he⟩ := hd ox
    have hdv : (r.den : Int) ∣ b := hx
    have e1 := fdiv_dvd hdv (den_ne r)
    have e0' : r * ((r.den : Int) : Rat) = ((r.num : Int) : Rat) := kfRat.rat r rfl
    have key : a = scW b (.q r) * e := by
      show a = r.num * b.fdiv (r.den : Int) * e
      generalize b.fdiv (r.den : Int) = u at *
      have hDD : ((D : Int) : Rat) = (u : Rat) * ((r.den : Int) : Rat) * (e : Rat) := by rw [he, ← e1, Rat.intCast_mul, Rat.intCast_mul]
      have : ((a : Int) : Rat) = ((r.num * u * e : Int) : Rat) := by
        rw [Rat.intCast_mul, Rat.intCast_mul, ← ea, ← e0', hDD]
        generalize ((r.den : Int) : Rat) = dd
        grind
      exact Rat.intCast_inj.mp this
    have ene : e ≠ 0 := fun z => by rw [z, Int.mul_zero] at he; omega
    have : (scW b (.q r)).natAbs ≤ a.natAbs := by
      rw [key, Int.natAbs_mul]
      exact Nat.le_mul_of_pos_right _ (Int.natAbs_pos.mpr ene)
    omega
  | z i =>
    have := hk.lt
    obtain ⟨_, i0, i1⟩ := ox
    show i.natAbs < 2 ^ B
    have : 2 ^ 7 ≤ 2 ^ B := Nat.pow_le_pow_right (by decide) h7
    have : (2 : Nat) ^ 7 = 128 := by decide
    omega
/-- lcm, by steps, stays within every common multiple -/
theorem lcm_dvd {b d D : Int} (hb : 0 < b) (hd : 0 < d) (h1 : b ∣ D) (h2 : d ∣ D) : b.fdiv ((Int.gcd b d : Nat) : Int) * d ∣ D := by
  have g0 : 0 < ((Int.gcd b d : Nat) : Int) := by have := Int.gcd_pos_of_ne_zero_left d (show b ≠ 0 by omega); omega
  have db : ((Int.gcd b d : Nat) : Int) ∣ b := Int.gcd_dvd_left b d
  have dd : ((Int.gcd b d : Nat) : Int) ∣ d := Int.gcd_dvd_right b d
  have e1 := fdiv_dvd db (by omega)
  have e2 := fdiv_dvd dd (by omega)
  -- D over the gcd is divided by both parts, which have no common divisor
  have cop : Int.gcd (b.fdiv ((Int.gcd b d : Nat) : Int)) (d.fdiv ((Int.gcd b d : Nat) : Int)) = 1 := by
    rw [Int.fdiv_eq_ediv_of_dvd db, Int.fdiv_eq_ediv_of_dvd dd, Int.gcd_ediv db dd, Int.natAbs_natCast]
    exact Nat.div_self (by omega)
  generalize hx : b.fdiv ((Int.gcd b d : Nat) : Int) = x at *
  generalize hy : d.fdiv ((Int.gcd b d : Nat) : Int) = y at *
  generalize hg : ((Int.gcd b d : Nat) : Int) = g at *
  obtain ⟨s, hs⟩ := h1
  obtain ⟨t, ht⟩ := h2
  -- x g s = y g t, so x s = y t, so y | x s, so y | s
  have e3 : x * s = y * t := by
    have : g * (x * s) = g * (y * t) := by
      have h : x * g * s = y * g * t := by rw [e1, e2, ← hs, ← ht]
      grind
    exact Int.eq_of_mul_eq_mul_left (by omega) this
  have dv : y ∣ s := by
    have : y ∣ x * s := ⟨t, e3⟩
    have h1 : y.natAbs ∣ x.natAbs * s.natAbs := by rw [← Int.natAbs_mul]; exact Int.natAbs_dvd_natAbs.mpr this
    have c1 : Nat.Coprime y.natAbs x.natAbs := by
      have : Nat.gcd x.natAbs y.natAbs = 1 := cop
      exact (Nat.coprime_comm.mp this)
    exact Int.natAbs_dvd_natAbs.mp (c1.dvd_of_dvd_mul_left h1)
  obtain ⟨u, hu⟩ := dv
  refine ⟨u, ?_⟩
  rw [hs, hu, ← e1, ← e2]
  grind
/-! ### the leads that are found so far -/
theorem swTo_dlen {k : Int} (rows : List (List Int)) : ∀ c, (swTo k rows c).1.length ≤ c
  | 0 => Nat.le_refl _
  | c + 1 => by
    have ih := swTo_dlen (k := k) rows c
    show (swTurn k c (swTo k rows c)).1.length ≤ c + 1
    generalize swTo k rows c = s at ih
    unfold swTurn
    cases e : s.2.filter (fun r => decide (r.getD c 0 ≠ 0)) with
    | nil => exact Nat.le_succ_of_le ih
    | cons l rest =>
      show (s.1.map _ ++ [(c, l)]).length ≤ c + 1
      rw [List.length_append, List.length_map]
      show s.1.length + 1 ≤ c + 1
      omega
/-- a row of whole numbers over one of them -/
theorem overL_rowB {k : Int} (hk : KindOk k) {B p : Nat} {ws : List Int} (h : ∀ w ∈ ws, w.natAbs < 2 ^ B) (hp : p < ws.length) (ne : ws.getD p 0 ≠ 0) (nn : nnum k (ws.getD p 0) ≠ nnum k 0) : rowB B (overL k (p, ws)) := by
  have hl : ws.getD p 0 ∈ ws := by
    rw [List.getD_eq_getElem?_getD, List.getElem?_eq_getElem hp]; exact List.getElem_mem hp
  have p2 : 0 < 2 ^ B := Nat.pow_pos (by decide)
  have hlb := h _ hl
  refine ⟨(ws.getD p 0).natAbs, by omega, hlb, fun x hx => ?_⟩
  unfold overL at hx
  obtain ⟨w, hw, rfl⟩ := List.mem_map.mp hx
  show dB (ws.getD p 0).natAbs (2 ^ B - 1) (ndiv k (nnum k w) (nnum k (ws.getD p 0)))
  generalize hL : ws.getD p 0 = l at *
  by_cases k0 : k = 0
  · subst k0
    have hwb := h w hw
    have e1 : nnum 0 w = .q (w : Rat) := rfl
    have e2 : nnum 0 l = .q (l : Rat) := rfl
    rw [e1, e2]
    show ∃ a : Int, (w : Rat) / (l : Rat) * (((l.natAbs : Nat) : Int) : Rat) = ((a : Int) : Rat) ∧ a.natAbs ≤ 2 ^ B - 1
    have nl : (l : Rat) ≠ 0 := fun z => ne (Rat.intCast_eq_zero_iff.mp z)
    rcases Int.le_total 0 l with s | s
    · refine ⟨w, ?_, by omega⟩
      rw [show ((l.natAbs : Nat) : Int) = l by omega]
      grind
    · refine ⟨-w, ?_, by omega⟩
      rw [show ((l.natAbs : Nat) : Int) = -l by omega, Rat.intCast_neg, Rat.intCast_neg]
      grind
  · have e1 : nnum k w = .z (w.fmod k) := by unfold nnum; rw [if_neg k0]
    have e2 : nnum k l = .z (l.fmod k) := by unfold nnum; rw [if_neg k0]
    rw [e1, e2]
    trivial
end La

namespace La
open Lean.Grind Nm
section
variable {k : Int} {F : Type} [Field F]
abbrev Rm (φ : Kf k F) (M : List (List Nb)) : (Nat → F) → Prop := Span (RmN φ M)
def perp (n : Nat) (U : (Nat → F) → Prop) : (Nat → F) → Prop := fun v => (∀ j, n ≤ j → v j = 0) ∧ ∀ u, U u → dot n u v = 0
variable {φ : Kf k F} {n : Nat} {R R' A : List (List Nb)} {ls ls' : List Nat}
theorem IsR.supp (h : IsR φ n R ls) {v : Nat → F} (hv : Rm φ R v) (j : Nat) (hj : n ≤ j) : v j = 0 := h.rr.out_of (h.rows.mpr hv) j hj
theorem IsR.ext (h : IsR φ n R ls) (h' : IsR φ n R' ls') (e : ∀ v, Rm φ R v ↔ Rm φ R' v) : R = R' := (h.unique h' (fun v => (e v).mp) (fun v => (e v).mpr)).1
/-- a row against R: one at the free place f -/
structure AgR (k : Int) (n : Nat) (R : List (List Nb)) (ls : List Nat) (f : Nat) (xs : List Nb) : Prop where
  len : xs.length = n
  ok : OkR k xs
  one : xs[f]? = some (nnum k 1)
  at_ : ∀ (i l : Nat) (r : List Nb) (y : Nb), ls[i]? = some l → R[i]? = some r → r[f]? = some y → xs[l]? = some (nsub k (nnum k 0) y)
  off : ∀ j, j < n → j ≠ f → j ∉ ls → xs[j]? = some (nnum k 0)
theorem IsR.get (h : IsR φ n R ls) {i l : Nat} {r : List Nb} (hl : ls[i]? = some l) (hr : R[i]? = some r) : (l, nv φ r) ∈ ls.zip (R.map (nv φ)) := zip_mem hl (by rw [List.getElem?_map, hr]; rfl)
theorem IsR.lead_of (h : IsR φ n R ls) {l : Nat} (hl : l ∈ ls) : ∃ (i : Nat) (r : List Nb), ls[i]? = some l ∧ R[i]? = some r := by
  obtain ⟨i, hi, e⟩ := List.getElem_of_mem hl
  have h2 : i < R.length := by rw [← h.len]; exact hi
  exact ⟨i, R[i], by rw [List.getElem?_eq_getElem hi, e], List.getElem?_eq_getElem h2⟩
theorem IsR.row_of (h : IsR φ n R ls) {r : List Nb} (hr : r ∈ R) : ∃ (i l : Nat), ls[i]? = some l ∧ R[i]? = some r := by
  obtain ⟨i, hi, e⟩ := List.getElem_of_mem hr
  have h2 : i < ls.length := by rw [h.len]; exact hi
  exact ⟨i, ls[i], List.getElem?_eq_getElem h2, by rw [List.getElem?_eq_getElem hi, e]⟩
/-- numbers of a row against -/
theorem AgR.val (h : IsR φ n R ls) {f : Nat} {xs : List Nb} (hk : KindOk k) (hf : f < n) (g : AgR k n R ls f xs) :
    nv φ xs f = 1 ∧ (∀ (i l : Nat) (r : List Nb), ls[i]? = some l → R[i]? = some r → nv φ xs l = - nv φ r f) ∧ (∀ j, j ≠ f → j ∉ ls → nv φ xs j = 0) := by
  refine ⟨by rw [nv_get φ g.one, φ.num1], fun i l r hl hr => ?_, fun j hj hn => ?_⟩
  · have orr := h.ok r (List.mem_of_getElem? hr)
    have hf' : f < r.length := by rw [orr.1]; exact hf
    rw [nv_get φ (g.at_ i l r _ hl hr (List.getElem?_eq_getElem hf')), φ.sub (nnum_ok hk 0) (orr.2 _ (List.getElem_mem hf')), φ.num0, nv_get φ (List.getElem?_eq_getElem hf')]
    grind
  · rcases Nat.lt_or_ge j n with z | z
    · rw [nv_get φ (g.off j z hj hn), φ.num0]
    · exact nv_out φ (by rw [g.len]; exact z)
theorem sub_dot (n : Nat) (u v w : Nat → F) : dot n u (fun j => v j - w j) = dot n u v - dot n u w := by
  have : (fun j => v j - w j) = fun j => v j + (-1) * w j := funext fun j => by grind
  rw [this, dot_add_r n u v (fun j => (-1) * w j), dot_smul_r]; grind
theorem Span.dot_zero_r {S : (Nat → F) → Prop} {x v : Nat → F} (h : Span S v) (z : ∀ r, S r → dot n x r = 0) : dot n x v = 0 := by
  rw [dot_comm]; exact h.dot_zero fun r hr => by rw [dot_comm]; exact z r hr
/-- each row of R with each row against it -/
theorem ag_dot (h : IsR φ n R ls) (hk : KindOk k) {f : Nat} {xs : List Nb} (hf : f < n) (nf : f ∉ ls) (g : AgR k n R ls f xs) {r : List Nb} (hr : r ∈ R) : dot n (nv φ r) (nv φ xs) = 0 := by
  obtain ⟨v1, v2, v3⟩ := g.val h hk hf
  obtain ⟨i, l, hl, hi⟩ := h.row_of hr
  have hp := h.get hl hi
  have ln : l < n := h.rr.lt _ hp
  have lf : l ≠ f := fun e => nf (by rw [← e]; exact List.mem_of_getElem? hl)
  -- only the places f and l count
  have e : dot n (nv φ r) (nv φ xs) = dot n (nv φ r) (unitF f 1) + dot n (nv φ r) (unitF l (- nv φ r f)) := by
    rw [← dot_add_r]
    refine dot_congr fun j hj => ?_
    unfold unitF
    by_cases e1 : j = f
    · subst e1
      rw [if_pos rfl, if_neg (Ne.symm lf), v1]; grind
    · by_cases e2 : j = l
      · subst e2
        rw [if_neg lf, if_pos rfl, v2 i j r hl hi]; grind
      · rw [if_neg e1, if_neg e2]
        by_cases hm : j ∈ ls
        · obtain ⟨i', r', hl', hi'⟩ := h.lead_of hm
          have : nv φ r j = 0 := h.rr.oth _ hp _ (h.get hl' hi') (Ne.symm e2)
          rw [this]; grind
        · rw [v3 j e1 hm]; grind
  have o : nv φ r l = 1 := h.rr.one _ hp
  rw [e, dot_unit hf, dot_unit ln, o]; grind
/-- the rows against R make all that is against it -/
theorem against_perp (h : IsR φ n R ls) (hk : KindOk k) {fs : List Nat} (inc : fs.Pairwise (· < ·)) (hfs : ∀ f, f ∈ fs ↔ f < n ∧ f ∉ ls) (la : fs.length = A.length) (hA : ∀ (i f : Nat) (xs : List Nb), fs[i]? = some f → A[i]? = some xs → AgR k n R ls f xs) (v : Nat → F) :
    Rm φ A v ↔ perp n (Rm φ R) v := by
  have rowA : ∀ xs ∈ A, ∃ f ∈ fs, AgR k n R ls f xs := fun xs hx => by
    obtain ⟨i, hi, e⟩ := List.getElem_of_mem hx
    have h2 : i < fs.length := by omega
    exact ⟨fs[i], List.getElem_mem h2, hA i fs[i] xs (List.getElem?_eq_getElem h2) (by rw [List.getElem?_eq_getElem hi, e])⟩
  have to : ∀ w, Rm φ A w → perp n (Rm φ R) w := fun w hw => by
    refine ⟨fun j hj => hw.zero_at fun r ⟨xs, hx, e⟩ => ?_, fun u hu => ?_⟩
    · obtain ⟨f, _, g⟩ := rowA xs hx
      rw [e]; exact nv_out φ (by rw [g.len]; exact hj)
    · refine hu.dot_zero fun r ⟨row, hrow, e⟩ => ?_
      rw [e]
      refine hw.dot_zero_r fun s ⟨xs, hx, e'⟩ => ?_
      obtain ⟨f, hf, g⟩ := rowA xs hx
      have := (hfs f).mp hf
      rw [e']; exact ag_dot h hk this.1 this.2 g hrow
  refine ⟨to v, fun hv => ?_⟩
  -- v less its sum of the rows against, by its numbers at the free places
  let PA : List (Pv F) := fs.zip (A.map (nv φ))
  have incA : PA.Pairwise fun a b => a.1 < b.1 := by
    show (fs.zip (A.map (nv φ))).Pairwise fun a b => a.1 < b.1
    rw [← List.pairwise_map (f := Prod.fst) (R := (· < ·)), List.map_fst_zip (by rw [List.length_map]; omega)]
    exact inc
  have memPA : ∀ p ∈ PA, ∃ xs, p.2 = nv φ xs ∧ AgR k n R ls p.1 xs ∧ p.1 ∈ fs := fun p hp => by
    obtain ⟨i, hi, e⟩ := List.getElem_of_mem hp
    have hi' : i < (fs.zip (A.map (nv φ))).length := hi
    rw [List.length_zip, List.length_map] at hi'
    have h1 : i < fs.length := by omega
    have h2 : i < A.length := by omega
    have e' : (fs.zip (A.map (nv φ)))[i] = p := e
    rw [List.getElem_zip, List.getElem_map] at e'
    refine ⟨A[i], by rw [← e'], ?_, by rw [← e']; exact List.getElem_mem h1⟩
    rw [← e']
    exact hA i _ _ (List.getElem?_eq_getElem h1) (List.getElem?_eq_getElem h2)
  have cA : Rm φ A (comb PA v) := (comb_span v PA).mono fun r ⟨p, hp, e⟩ => (rows_iff (φ := φ) la r).mp ⟨p, hp, e⟩
  have pc := to _ cA
  have wz : ∀ j, v j - comb PA v j = 0 := by
    have free : ∀ f, f ∈ fs → comb PA v f = v f := fun f hf => by
      obtain ⟨i, hi, e⟩ := List.getElem_of_mem hf
      have h2 : i < A.length := by omega
      have hm : (f, nv φ A[i]) ∈ PA := zip_mem (xs := fs) (ys := A.map (nv φ)) (i := i) (by rw [List.getElem?_eq_getElem hi, e]) (by rw [List.getElem?_map, List.getElem?_eq_getElem h2]; rfl)
      -- at f all but the row of f have nought
      have hfl := (hfs f).mp hf
      have key : comb PA v f = v f * 1 := by
        have gen : ∀ (P : List (Pv F)), P.Pairwise (fun a b => a.1 < b.1) → (∀ p ∈ P, ∃ xs, p.2 = nv φ xs ∧ AgR k n R ls p.1 xs ∧ p.1 ∈ fs) → (∃ p ∈ P, p.1 = f) → comb P v f = v f * 1 := by
          intro P
          induction P with
          | nil => intro _ _ ⟨p, hp, _⟩; exact nomatch hp
          | cons p P ih =>
            intro pw hm hex
            rw [List.pairwise_cons] at pw
            obtain ⟨xs, ex, g, pf⟩ := hm p List.mem_cons_self
            have vals := g.val h hk ((hfs p.1).mp pf).1
            simp only [comb]
            by_cases ep : p.1 = f
            · rw [comb_zero v f P fun q hq => ?_]
              · rw [ex, ← ep, vals.1]; grind
              · obtain ⟨ys, ey, g', qf⟩ := hm q (List.mem_cons_of_mem _ hq)
                have vq := g'.val h hk ((hfs q.1).mp qf).1
                have : p.1 < q.1 := pw.1 q hq
                rw [ey, vq.2.2 f (by omega) hfl.2]; grind
            · obtain ⟨q, hq, eq⟩ := hex
              rcases List.mem_cons.mp hq with z | z
              · rw [z] at eq; exact absurd eq ep
              · rw [ih pw.2 (fun r hr => hm r (List.mem_cons_of_mem _ hr)) ⟨q, z, eq⟩, ex, vals.2.2 f (Ne.symm ep) hfl.2]; grind
        exact gen PA incA memPA ⟨_, hm, rfl⟩
      rw [key]; grind
    intro j
    rcases Nat.lt_or_ge j n with hj | hj
    · by_cases hm : j ∈ ls
      · obtain ⟨i, r, hl, hr⟩ := h.lead_of hm
        have hp := h.get hl hr
        have d0 : dot n (nv φ r) (fun j => v j - comb PA v j) = 0 := by
          have h1 : dot n (nv φ r) v = 0 := hv.2 _ (.of ⟨r, List.mem_of_getElem? hr, rfl⟩)
          have h2 : dot n (nv φ r) (comb PA v) = 0 := pc.2 _ (.of ⟨r, List.mem_of_getElem? hr, rfl⟩)
          rw [sub_dot, h1, h2]; grind
        rw [dot_one hj fun t ht ne => ?_] at d0
        · have o : nv φ r j = 1 := h.rr.one _ hp
          rw [o] at d0
          grind
        · by_cases tm : t ∈ ls
          · obtain ⟨i', r', hl', hi'⟩ := h.lead_of tm
            have : nv φ r t = 0 := h.rr.oth _ hp _ (h.get hl' hi') (Ne.symm ne)
            rw [this]; grind
          · rw [free t ((hfs t).mpr ⟨ht, tm⟩)]; grind
      · rw [free j ((hfs j).mpr ⟨hj, hm⟩)]; grind
    · rw [hv.1 j hj, pc.1 j hj]; grind
  exact cA.cast fun j => by have := wz j; grind
/-- what is against what is against R -/
theorem perp_perp (h : IsR φ n R ls) (hk : KindOk k) (v : Nat → F) : perp n (perp n (Rm φ R)) v ↔ Rm φ R v := by
  constructor
  · intro hv
    have cR : Rm φ R (comb (ls.zip (R.map (nv φ))) v) := h.rows.mp (comb_span v _)
    -- a row against R for each free place
    have ag : ∀ f, f < n → f ∉ ls → ∃ a : Nat → F, perp n (Rm φ R) a ∧ a f = 1 ∧ ∀ j, j ≠ f → j ∉ ls → a j = 0 := fun f hf nf => by
      let a : Nat → F := fun j => if j = f then 1 else comb (ls.zip (R.map (nv φ))) (fun _ => 0) j + (if hj : j ∈ ls then - (nv φ ((R.getD (ls.idxOf j) [])) f) else 0)
      have a0 : ∀ j, j ≠ f → j ∉ ls → a j = 0 := fun j hj hn => by
        show (if j = f then 1 else _) = _
        rw [if_neg hj, dif_neg hn, comb_zero _ j _ fun p _ => by grind]; grind
      have al : ∀ (i l : Nat) (r : List Nb), ls[i]? = some l → R[i]? = some r → a l = - nv φ r f := fun i l r hl hr => by
        have lf : l ≠ f := fun e => nf (by rw [← e]; exact List.mem_of_getElem? hl)
        have hm := List.mem_of_getElem? hl
        have nd : ls.Nodup := by
          have := h.rr.inc
          rw [← List.pairwise_map (f := Prod.fst) (R := (· < ·)), List.map_fst_zip (by rw [List.length_map]; exact Nat.le_of_eq h.len)] at this
          exact this.imp fun h => Nat.ne_of_lt h
        have ei : ls.idxOf l = i := by
          have h1 : ls[ls.idxOf l]? = some l := by rw [List.getElem?_eq_getElem (List.idxOf_lt_length_of_mem hm)]; simp
          exact (List.getElem?_inj (List.idxOf_lt_length_of_mem hm) nd).mp (h1.trans hl.symm)
        show (if l = f then 1 else _) = _
        rw [if_neg lf, dif_pos hm, comb_zero _ l _ fun p _ => by grind, ei, List.getD_eq_getElem?_getD, hr]
        show 0 + -(nv φ r f) = _
        grind
      refine ⟨a, ⟨fun j hj => a0 j (by omega) fun hm => ?_, fun u hu => ?_⟩, by show (if f = f then 1 else _) = _; rw [if_pos rfl], a0⟩
      · obtain ⟨i, r, hl, hr⟩ := h.lead_of hm
        have : j < n := h.rr.lt _ (h.get hl hr)
        omega
      · refine hu.dot_zero fun s ⟨r, hr, e⟩ => ?_
        rw [e]
        obtain ⟨i, l, hl, hi⟩ := h.row_of hr
        have hp := h.get hl hi
        have ln : l < n := h.rr.lt _ hp
        have lf : l ≠ f := fun e => nf (by rw [← e]; exact List.mem_of_getElem? hl)
        have af : a f = 1 := by show (if f = f then 1 else _) = _; rw [if_pos rfl]
        have e : dot n (nv φ r) a = dot n (nv φ r) (unitF f 1) + dot n (nv φ r) (unitF l (- nv φ r f)) := by
          rw [← dot_add_r]
          refine dot_congr fun j hj => ?_
          unfold unitF
          by_cases e1 : j = f
          · subst e1
            rw [if_pos rfl, if_neg (Ne.symm lf), af]; grind
          · by_cases e2 : j = l
            · subst e2
              rw [if_neg lf, if_pos rfl, al i j r hl hi]; grind
            · rw [if_neg e1, if_neg e2]
              by_cases hm : j ∈ ls
              · obtain ⟨i', r', hl', hi'⟩ := h.lead_of hm
                have : nv φ r j = 0 := h.rr.oth _ hp _ (h.get hl' hi') (Ne.symm e2)
                rw [this]; grind
              · rw [a0 j e1 hm]; grind
        have o : nv φ r l = 1 := h.rr.one _ hp
        rw [e, dot_unit hf, dot_unit ln, o]; grind
    have lead : ∀ l, l ∈ ls → comb (ls.zip (R.map (nv φ))) v l = v l := fun l hl => by
      obtain ⟨i, r, h1, h2⟩ := h.lead_of hl
      have hp := h.get h1 h2
      -- the sum agrees with v at the leads
      have gen : ∀ (P : List (Pv F)), P.Pairwise (fun a b => a.1 < b.1) → (∀ p ∈ P, p ∈ ls.zip (R.map (nv φ))) → (∃ p ∈ P, p.1 = l) → comb P v l = v l * 1 := by
        intro P
        induction P with
        | nil => intro _ _ ⟨p, hp, _⟩; exact nomatch hp
        | cons p P ih =>
          intro pw hm hex
          rw [List.pairwise_cons] at pw
          have hp0 := hm p List.mem_cons_self
          simp only [comb]
          by_cases ep : p.1 = l
          · have o : p.2 p.1 = 1 := h.rr.one _ hp0
            rw [comb_zero v l P fun q hq => ?_]
            · rw [← ep, o]; grind
            · have hq0 := hm q (List.mem_cons_of_mem _ hq)
              have : p.1 < q.1 := pw.1 q hq
              have z : q.2 p.1 = 0 := h.rr.oth q hq0 p hp0 (by omega)
              rw [← ep, z]; grind
          · obtain ⟨q, hq, eq⟩ := hex
            rcases List.mem_cons.mp hq with z | z
            · rw [z] at eq; exact absurd eq ep
            · have hq0 := hm q (List.mem_cons_of_mem _ z)
              have z2 : p.2 q.1 = 0 := h.rr.oth p hp0 q hq0 (by rw [eq]; exact ep)
              rw [ih pw.2 (fun r hr => hm r (List.mem_cons_of_mem _ hr)) ⟨q, z, eq⟩, ← eq, z2]; grind
      rw [gen _ h.rr.inc (fun p hp => hp) ⟨_, hp, rfl⟩]; grind
    refine cR.cast fun j => ?_
    rcases Nat.lt_or_ge j n with hj | hj
    · by_cases hm : j ∈ ls
      · exact lead j hm
      · obtain ⟨a, pa, af, a0⟩ := ag j hj hm
        have d0 : dot n a (fun j => v j - comb (ls.zip (R.map (nv φ))) v j) = 0 := by
          have h1 : dot n a v = 0 := hv.2 a pa
          have h2 : dot n a (comb (ls.zip (R.map (nv φ))) v) = 0 := by rw [dot_comm]; exact pa.2 _ cR
          rw [sub_dot, h1, h2]; grind
        rw [dot_one hj fun t ht ne => ?_, af] at d0
        · grind
        · by_cases tm : t ∈ ls
          · rw [lead t tm]; grind
          · rw [a0 t ne tm]; grind
    · rw [h.supp cR j hj, hv.1 j hj]
  · intro hv
    exact ⟨fun j hj => h.supp hv j hj, fun u hu => by rw [dot_comm]; exact hu.2 v hv⟩
end
end La

namespace La
open Lean.Grind Nm
section
variable {k : Int} {F : Type} [Field F] {φ : Kf k F} {n : Nat}
/-! ### every list of rows has a reduced form -/
theorem scl_exists (hk : KindOk k) : ∀ {xs : List Nb}, OkR k xs → ∃ b, Scl k xs (xs.map (scW b)) b := by
  intro xs ox
  by_cases k0 : k = 0
  · have : ∃ b : Int, 0 < b ∧ ∀ x ∈ xs, dvB b x := by
      induction xs with
      | nil => exact ⟨1, by decide, fun x hx => nomatch hx⟩
      | cons x xs ih =>
        obtain ⟨b, b0, hb⟩ := ih fun y hy => ox y (List.mem_cons_of_mem _ hy)
        cases x with
        | z i => exact absurd k0 (ox (.z i) List.mem_cons_self).1
        | q r =>
          refine ⟨b * (r.den : Int), Int.mul_pos b0 (den_pos r), fun y hy => ?_⟩
          rcases List.mem_cons.mp hy with e | hy
          · rw [e]; exact Int.dvd_mul_left _ _
          · have := hb y hy
            cases y with
            | q s => exact Int.dvd_trans (show (s.den : Int) ∣ b from this) (Int.dvd_mul_right _ _)
            | z j => trivial
    obtain ⟨b, b0, hb⟩ := this
    exact ⟨b, rfl, b0, fun z => absurd k0 z, hb⟩
  · refine ⟨1, rfl, by decide, fun _ => rfl, fun x hx => ?_⟩
    have o := ox x hx
    cases x with
    | q r => exact absurd o k0
    | z i => trivial
theorem red_exists (φ : Kf k F) (hk : KindOk k) {M : List (List Nb)} (oM : OkM k n M) : ∃ R ls, RedOf φ n M R ls := by
  have : ∃ Ws : List (List Int), Ws.length = M.length ∧ ∀ (i : Nat) (r : List Nb) (ws : List Int), M[i]? = some r → Ws[i]? = some ws → ∃ b, Scl k r ws b := by
    induction M with
    | nil => exact ⟨[], rfl, fun i r ws h => by simp at h⟩
    | cons m M ih =>
      obtain ⟨Ws, l, h⟩ := ih fun r hr => oM r (List.mem_cons_of_mem _ hr)
      obtain ⟨b, hb⟩ := scl_exists hk (oM m List.mem_cons_self).2
      refine ⟨m.map (scW b) :: Ws, by simp [l], fun i r ws h1 h2 => ?_⟩
      cases i with
      | zero => simp at h1 h2; subst h1 h2; exact ⟨b, hb⟩
      | succ i => exact h i r ws (by simpa using h1) (by simpa using h2)
  obtain ⟨Ws, l, h⟩ := this
  exact ⟨_, _, redM_of φ hk oM l h⟩
/-- a row of the field as a row of numbers -/
def ofV (φ : Kf k F) (n : Nat) (v : Nat → F) : List Nb := (List.range n).map fun j => φ.of (v j)
theorem ofV_ok (v : Nat → F) : (ofV φ n v).length = n ∧ OkR k (ofV φ n v) := by
  refine ⟨by unfold ofV; simp, fun x hx => ?_⟩
  unfold ofV at hx
  obtain ⟨j, _, rfl⟩ := List.mem_map.mp hx
  exact φ.ok _
theorem ofV_nv {v : Nat → F} (hv : ∀ j, n ≤ j → v j = 0) (j : Nat) : nv φ (ofV φ n v) j = v j := by
  rcases Nat.lt_or_ge j n with h | h
  · rw [nv_get φ (x := φ.of (v j)) (by unfold ofV; rw [List.getElem?_map, List.getElem?_range h]; rfl), φ.to_of]
  · rw [nv_out φ (by rw [(ofV_ok (φ := φ) v).1]; exact h), hv j h]
/-! ### how long a reduced form is -/
theorem sortedN_ext : ∀ {P Q : List Nat}, P.Pairwise (· < ·) → Q.Pairwise (· < ·) → (∀ p ∈ P, p ∈ Q) → (∀ q ∈ Q, q ∈ P) → P = Q
  | [], [], _, _, _, _ => rfl
  | [], q :: _, _, _, _, h => nomatch h q List.mem_cons_self
  | p :: _, [], _, _, h, _ => nomatch h p List.mem_cons_self
  | p :: P, q :: Q, hP, hQ, h1, h2 => by
    rw [List.pairwise_cons] at hP hQ
    have e : p = q := by
      rcases List.mem_cons.mp (h1 p List.mem_cons_self) with e | m
      · exact e
      · rcases List.mem_cons.mp (h2 q List.mem_cons_self) with e | m'
        · exact e.symm
        · have := hP.1 q m'; have := hQ.1 p m; omega
    subst e
    rw [sortedN_ext hP.2 hQ.2 (fun r hr => ?_) (fun r hr => ?_)]
    · rcases List.mem_cons.mp (h1 r (List.mem_cons_of_mem _ hr)) with e | m
      · subst e; exact absurd (hP.1 r hr) (Nat.lt_irrefl _)
      · exact m
    · rcases List.mem_cons.mp (h2 r (List.mem_cons_of_mem _ hr)) with e | m
      · subst e; exact absurd (hQ.1 r hr) (Nat.lt_irrefl _)
      · exact m
theorem filter_parts (p : Nat → Bool) : ∀ l : List Nat, (l.filter p).length + (l.filter fun x => !p x).length = l.length
  | [] => rfl
  | x :: l => by
    have ih := filter_parts p l
    rw [List.filter_cons, List.filter_cons]
    cases h : p x <;> simp <;> omega
theorem one_more {P Q : List Nat} (hP : P.Pairwise (· < ·)) (hQ : Q.Pairwise (· < ·)) (sub : ∀ p ∈ P, p ∈ Q) (ex : ∃ q ∈ Q, q ∉ P) (un : ∀ p ∈ Q, ∀ q ∈ Q, p ∉ P → q ∉ P → p = q) : Q.length = P.length + 1 := by
  have e1 : Q.filter (fun x => decide (x ∈ P)) = P := sortedN_ext (hQ.filter _) hP (fun p hp => by simpa using (List.mem_filter.mp hp).2) (fun p hp => List.mem_filter.mpr ⟨sub p hp, by simpa using hp⟩)
  have e2 : (Q.filter fun x => !decide (x ∈ P)).length = 1 := by
    obtain ⟨q, hq, nq⟩ := ex
    have hm : q ∈ Q.filter fun x => !decide (x ∈ P) := List.mem_filter.mpr ⟨hq, by simpa using nq⟩
    have nd : (Q.filter fun x => !decide (x ∈ P)).Pairwise (· < ·) := hQ.filter _
    cases hf : Q.filter fun x => !decide (x ∈ P) with
    | nil => rw [hf] at hm; exact nomatch hm
    | cons a l =>
      cases l with
      | nil => rfl
      | cons b l =>
        rw [hf] at nd
        have ma : a ∈ Q.filter fun x => !decide (x ∈ P) := by rw [hf]; exact List.mem_cons_self
        have mb : b ∈ Q.filter fun x => !decide (x ∈ P) := by rw [hf]; exact List.mem_cons_of_mem _ List.mem_cons_self
        have ha := List.mem_filter.mp ma
        have hb := List.mem_filter.mp mb
        have := un a ha.1 b hb.1 (by simpa using ha.2) (by simpa using hb.2)
        rw [List.pairwise_cons] at nd
        have := nd.1 b List.mem_cons_self
        omega
  have := filter_parts (fun x => decide (x ∈ P)) Q
  rw [e1] at this
  omega
variable {U W : List (List Nb)} {lu lw : List Nat}
theorem IsR.inc (h : IsR φ n U lu) : lu.Pairwise (· < ·) := by
  have := h.rr.inc
  rw [← List.pairwise_map (f := Prod.fst) (R := (· < ·)), List.map_fst_zip (by rw [List.length_map]; exact Nat.le_of_eq h.len)] at this
  exact this
/-- leads: first places of what lies in the room -/
theorem IsR.lead_iff (h : IsR φ n U lu) (p : Nat) : p ∈ lu ↔ ∃ v, Rm φ U v ∧ (∀ j, j < p → v j = 0) ∧ v p ≠ 0 := by
  constructor
  · intro hp
    obtain ⟨i, r, h1, h2⟩ := h.lead_of hp
    have hm := h.get h1 h2
    have o : nv φ r p = 1 := h.rr.one _ hm
    exact ⟨nv φ r, .of ⟨r, List.mem_of_getElem? h2, rfl⟩, h.rr.bef _ hm, by rw [o]; exact fun e => Field.zero_ne_one e.symm⟩
  · rintro ⟨v, hv, z, ne⟩
    obtain ⟨q, hq, e⟩ := h.rr.lead (h.rows.mpr hv) z ne
    rw [← e]
    exact (List.of_mem_zip (show (q.1, q.2) ∈ _ from hq)).1
/-- what lies in the room and is nought at all leads is nought -/
theorem IsR.zero (h : IsR φ n U lu) {v : Nat → F} (hv : Rm φ U v) (z : ∀ l ∈ lu, v l = 0) (j : Nat) : v j = 0 := by
  rw [← h.rr.comb (h.rows.mpr hv) j]
  exact comb_zero v j _ fun p hp => by
    rw [z p.1 (List.of_mem_zip (show (p.1, p.2) ∈ _ from hp)).1]; grind
theorem IsR.take_off (h : IsR φ n U lu) (v : Nat → F) : ∃ u, Rm φ U u ∧ ∀ l ∈ lu, u l = v l := by
  refine ⟨comb (lu.zip (U.map (nv φ))) v, h.rows.mp (comb_span v _), fun l hl => ?_⟩
  obtain ⟨i, r, h1, h2⟩ := h.lead_of hl
  have hp := h.get h1 h2
  have gen : ∀ (P : List (Pv F)), P.Pairwise (fun a b => a.1 < b.1) → (∀ p ∈ P, p ∈ lu.zip (U.map (nv φ))) → (∃ p ∈ P, p.1 = l) → comb P v l = v l * 1 := by
    intro P
    induction P with
    | nil => intro _ _ ⟨p, hp, _⟩; exact nomatch hp
    | cons p P ih =>
      intro pw hm hex
      rw [List.pairwise_cons] at pw
      have hp0 := hm p List.mem_cons_self
      simp only [comb]
      by_cases ep : p.1 = l
      · have o : p.2 p.1 = 1 := h.rr.one _ hp0
        rw [comb_zero v l P fun q hq => ?_]
        · rw [← ep, o]; grind
        · have hq0 := hm q (List.mem_cons_of_mem _ hq)
          have : p.1 < q.1 := pw.1 q hq
          have z : q.2 p.1 = 0 := h.rr.oth q hq0 p hp0 (by omega)
          rw [← ep, z]; grind
      · obtain ⟨q, hq, eq⟩ := hex
        rcases List.mem_cons.mp hq with z | z
        · rw [z] at eq; exact absurd eq ep
        · have hq0 := hm q (List.mem_cons_of_mem _ z)
          have z2 : p.2 q.1 = 0 := h.rr.oth p hp0 q hq0 (by rw [eq]; exact ep)
          rw [ih pw.2 (fun r hr => hm r (List.mem_cons_of_mem _ hr)) ⟨q, z, eq⟩, ← eq, z2]; grind
  rw [gen _ h.rr.inc (fun p hp => hp) ⟨_, hp, rfl⟩]; grind
/-- one row more that does not lie in the room: one lead more -/
theorem len_add (h : IsR φ n U lu) (h' : IsR φ n W lw) {x : Nat → F} (hx : ¬ Rm φ U x) (e : ∀ v, Rm φ W v ↔ ∃ u c, Rm φ U u ∧ ∀ j, v j = u j + c * x j) : W.length = U.length + 1 := by
  rw [← h.len, ← h'.len]
  have sub : ∀ u, Rm φ U u → Rm φ W u := fun u hu => (e u).mpr ⟨u, 0, hu, fun j => by grind⟩
  have xW : Rm φ W x := (e x).mpr ⟨fun _ => 0, 1, .zero, fun j => by grind⟩
  refine one_more h.inc h'.inc (fun p hp => ?_) ?_ fun p hp q hq np nq => ?_
  · obtain ⟨v, hv, z, ne⟩ := (h.lead_iff p).mp hp
    exact (h'.lead_iff p).mpr ⟨v, sub v hv, z, ne⟩
  · -- x less what U has of it at U's leads is not nought: its first place is new
    refine Classical.byContradiction fun no => hx ?_
    obtain ⟨u, hu, eu⟩ := h.take_off x
    have d : Rm φ W (fun j => 1 * x j + (-1) * u j) := xW.lin 1 (-1) (sub u hu)
    have dz := h'.zero d fun l hl => by
      have : l ∈ lu := Classical.byContradiction fun z => no ⟨l, hl, z⟩
      rw [eu l this]; grind
    exact hu.cast fun j => by have := dz j; grind
  · -- two new leads: one of them would be of U
    have main : ∀ p q, p ∈ lw → q ∈ lw → p ∉ lu → q ∉ lu → p < q → False := fun p q hp hq np nq lt => by
      obtain ⟨i, r, h1, h2⟩ := h'.lead_of hp
      obtain ⟨i', s, h3, h4⟩ := h'.lead_of hq
      have mp := h'.get h1 h2
      have mq := h'.get h3 h4
      obtain ⟨u, c, hu, eu⟩ := (e _).mp (.of ⟨r, List.mem_of_getElem? h2, rfl⟩)
      obtain ⟨v, d, hv, ev⟩ := (e _).mp (.of ⟨s, List.mem_of_getElem? h4, rfl⟩)
      have rp : nv φ r p = 1 := h'.rr.one _ mp
      have sq : nv φ s q = 1 := h'.rr.one _ mq
      have rb : ∀ j, j < p → nv φ r j = 0 := h'.rr.bef _ mp
      have sb : ∀ j, j < q → nv φ s j = 0 := h'.rr.bef _ mq
      have one : (1 : F) ≠ 0 := fun e => Field.zero_ne_one e.symm
      by_cases d0 : d = 0
      · refine nq ((h.lead_iff q).mpr ⟨v, hv, fun j hj => ?_, ?_⟩)
        · have := ev j; rw [sb j hj, d0] at this; grind
        · have := ev q; rw [sq, d0] at this
          intro z; rw [z] at this; grind
      · -- r less c / d times s lies in U, with first place p
        refine np ((h.lead_iff p).mpr ⟨fun j => 1 * u j + (-(c / d)) * v j, hu.lin 1 _ hv, fun j hj => ?_, ?_⟩)
        · have a := eu j; have b := ev j
          rw [rb j hj] at a
          rw [sb j (by omega)] at b
          show 1 * u j + (-(c / d)) * v j = 0
          have a' : u j = -(c * x j) := by grind
          have b' : v j = -(d * x j) := by grind
          rw [a', b']; grind
        · have a := eu p; have b := ev p
          rw [rp] at a
          rw [sb p lt] at b
          show 1 * u p + (-(c / d)) * v p ≠ 0
          have a' : u p = 1 - c * x p := by grind
          have b' : v p = -(d * x p) := by grind
          rw [a', b']
          intro z
          have : (1 : F) = 0 := by grind
          exact one this
    rcases Nat.lt_trichotomy p q with g | g | g
    · exact (main p q hp hq np nq g).elim
    · exact g
    · exact (main q p hq hp nq np g).elim
/-- the rows of a sum and of what is shared come to the rows of both -/
theorem dim_formula (hk : KindOk k) {A B J M : List (List Nb)} {la lb lj lm : List Nat} (hA : IsR φ n A la) (hB : IsR φ n B lb) (hJ : IsR φ n J lj) (hM : IsR φ n M lm)
    (ej : ∀ v, Rm φ J v ↔ ∃ a b, Rm φ A a ∧ Rm φ B b ∧ ∀ j, v j = a j + b j) (em : ∀ v, Rm φ M v ↔ Rm φ A v ∧ Rm φ B v) : J.length + M.length = A.length + B.length := by
  have step : ∀ i, i ≤ B.length → ∃ J' lj' M' lm', IsR φ n J' lj' ∧ IsR φ n M' lm' ∧ (∀ v, Rm φ J' v ↔ ∃ a b, Rm φ A a ∧ Rm φ (B.take i) b ∧ ∀ j, v j = a j + b j) ∧ (∀ v, Rm φ M' v ↔ Rm φ A v ∧ Rm φ (B.take i) v) ∧ J'.length + M'.length = A.length + i := by
    intro i
    induction i with
    | zero =>
      intro _
      have nilR : IsR φ n ([] : List (List Nb)) ([] : List Nat) := ⟨fun r hr => (nomatch hr), rfl, ⟨.nil, fun p hp => (nomatch hp), fun p hp => (nomatch hp), fun p hp => (nomatch hp), fun p hp => (nomatch hp), fun p hp => (nomatch hp)⟩⟩
      have nilZ : ∀ v, Rm φ ([] : List (List Nb)) v → ∀ j, v j = 0 := fun v hv j => hv.zero_at fun r ⟨x, hx, _⟩ => nomatch hx
      refine ⟨A, la, [], [], hA, nilR, fun v => ?_, fun v => ?_, by simp⟩
      · constructor
        · intro hv; exact ⟨v, fun _ => 0, hv, .zero, fun j => by grind⟩
        · rintro ⟨a, b, ha, hb, e⟩
          exact ha.cast fun j => by rw [e j, nilZ b hb j]; grind
      · constructor
        · intro hv
          exact ⟨Span.zero.cast fun j => (nilZ v hv j).symm, hv⟩
        · exact fun h => h.2
    | succ i ih =>
      intro hi
      obtain ⟨J', lj', M', lm', iJ, iM, eJ, eM, len⟩ := ih (by omega)
      have hi' : i < B.length := hi
      obtain ⟨l, hl⟩ : ∃ l, lb[i]? = some l := ⟨lb[i]'(by rw [hB.len]; exact hi'), List.getElem?_eq_getElem _⟩
      have hb := List.getElem?_eq_getElem hi'
      have hp := hB.get hl hb
      generalize hbv : nv φ B[i] = b at *
      have etake : B.take (i + 1) = B.take i ++ [B[i]] := List.take_succ_eq_append_getElem hi'
      have eB : ∀ v, Rm φ (B.take (i + 1)) v ↔ ∃ u c, Rm φ (B.take i) u ∧ ∀ j, v j = u j + c * b j := fun v => by
        rw [etake]
        constructor
        · intro hv
          refine hv.all (P := fun v => ∃ u c, Rm φ (B.take i) u ∧ ∀ j, v j = u j + c * b j) ⟨fun _ => 0, 0, .zero, fun j => by grind⟩ fun c r v ⟨row, hrow, e⟩ ⟨u, d, hu, eu⟩ => ?_
          rcases List.mem_append.mp hrow with q | q
          · exact ⟨fun j => c * r j + u j, d, .step c ⟨row, q, e⟩ hu, fun j => by show c * r j + v j = c * r j + u j + d * _; rw [eu j]; grind⟩
          · rw [List.mem_singleton.mp q] at e
            exact ⟨u, c + d, hu, fun j => by show c * r j + v j = _; rw [eu j, e, hbv]; grind⟩
        · rintro ⟨u, c, hu, eu⟩
          have h1 : Rm φ (B.take i ++ [B[i]]) u := hu.mono fun r ⟨x, hx, e⟩ => ⟨x, List.mem_append_left _ hx, e⟩
          have h2 : Rm φ (B.take i ++ [B[i]]) b := .of ⟨B[i], List.mem_append_right _ (List.mem_singleton.mpr rfl), hbv.symm⟩
          exact (h1.lin 1 c h2).cast fun j => by rw [eu j]; grind
      have bl : b l = 1 := hB.rr.one _ hp
      have nB : ¬ Rm φ (B.take i) b := fun h => by
        have z : b l = 0 := h.zero_at fun r ⟨x, hx, e⟩ => by
          obtain ⟨t, ht, et⟩ := List.getElem_of_mem hx
          have ht' : t < i := by rw [List.length_take] at ht; omega
          have ht2 : t < B.length := by omega
          have hx' : B[t]? = some x := by rw [List.getElem?_eq_getElem ht2]; rw [List.getElem_take] at et; rw [et]
          obtain ⟨l', hl'⟩ : ∃ l', lb[t]? = some l' := ⟨lb[t]'(by rw [hB.len]; exact ht2), List.getElem?_eq_getElem _⟩
          have hq := hB.get hl' hx'
          have ne : l' ≠ l := fun z => by
            have nd : lb.Nodup := hB.inc.imp fun h => Nat.ne_of_lt h
            have q : lb[t]? = lb[i]? := by rw [hl', hl, z]
            have := (List.getElem?_inj (List.getElem?_eq_some_iff.mp hl').1 nd).mp q
            omega
          rw [e]; exact hB.rr.oth _ hq _ hp ne
        rw [bl] at z
        exact Field.zero_ne_one z.symm
      have bs : ∀ j, n ≤ j → b j = 0 := hB.rr.out _ hp
      have mkR : ∀ (U : List (List Nb)) (lu : List Nat) (x : Nat → F), IsR φ n U lu → (∀ j, n ≤ j → x j = 0) → ∃ W lw, IsR φ n W lw ∧ ∀ v, Rm φ W v ↔ ∃ u c, Rm φ U u ∧ ∀ j, v j = u j + c * x j := fun U lu x hU xs => by
        have oM : OkM k n (U ++ [ofV φ n x]) := fun r hr => by
          rcases List.mem_append.mp hr with q | q
          · exact hU.ok r q
          · rw [List.mem_singleton.mp q]; exact ofV_ok x
        obtain ⟨W, lw, red⟩ := red_exists φ hk oM
        refine ⟨W, lw, red.toIsR, fun v => ⟨fun hv => ?_, fun ⟨u, c, hu, eu⟩ => ?_⟩⟩
        · refine (red.fro v hv).all (P := fun v => ∃ u c, Rm φ U u ∧ ∀ j, v j = u j + c * x j) ⟨fun _ => 0, 0, .zero, fun j => by grind⟩ fun c r v ⟨row, hrow, e⟩ ⟨u, d, hu, eu⟩ => ?_
          rcases List.mem_append.mp hrow with q | q
          · exact ⟨fun j => c * r j + u j, d, .step c ⟨row, q, e⟩ hu, fun j => by show c * r j + v j = c * r j + u j + d * _; rw [eu j]; grind⟩
          · rw [List.mem_singleton.mp q] at e
            exact ⟨u, c + d, hu, fun j => by show c * r j + v j = _; rw [eu j, e, ofV_nv xs]; grind⟩
        · refine red.to v ?_
          have h1 : Rm φ (U ++ [ofV φ n x]) u := hu.mono fun r ⟨y, hy, e⟩ => ⟨y, List.mem_append_left _ hy, e⟩
          have h2 : Rm φ (U ++ [ofV φ n x]) (nv φ (ofV φ n x)) := .of ⟨_, List.mem_append_right _ (List.mem_singleton.mpr rfl), rfl⟩
          exact (h1.lin 1 c h2).cast fun j => by rw [eu j, ofV_nv xs]; grind
      by_cases bJ : Rm φ J' b
      · obtain ⟨a, u, ha, hu, eb⟩ := (eJ b).mp bJ
        have as : ∀ j, n ≤ j → a j = 0 := fun j hj => hA.supp ha j hj
        have aB : Rm φ (B.take (i + 1)) a := (eB a).mpr ⟨fun j => (-1) * u j, 1, hu.smul (-1), fun j => by rw [eb j]; grind⟩
        have nM : ¬ Rm φ M' a := fun h => nB (((((eM a).mp h).2).add hu).cast fun j => (eb j).symm)
        obtain ⟨M2, lm2, iM2, eM2⟩ := mkR M' lm' a iM as
        have l2 := len_add iM iM2 nM eM2
        refine ⟨J', lj', M2, lm2, iJ, iM2, fun v => ?_, fun v => ?_, by omega⟩
        · rw [eJ v]
          constructor
          · rintro ⟨a', b', ha', hb', e⟩
            exact ⟨a', b', ha', (eB b').mpr ⟨b', 0, hb', fun j => by grind⟩, e⟩
          · rintro ⟨a', b', ha', hb', e⟩
            obtain ⟨u', c, hu', eu'⟩ := (eB b').mp hb'
            exact ⟨fun j => 1 * a' j + c * a j, fun j => 1 * u' j + c * u j, ha'.lin 1 c ha, hu'.lin 1 c hu, fun j => by rw [e j, eu' j, eb j]; grind⟩
        · rw [eM2 v]
          constructor
          · rintro ⟨m, c, hm, e⟩
            have hm' := (eM m).mp hm
            refine ⟨(hm'.1.lin 1 c ha).cast fun j => by rw [e j]; grind, ?_⟩
            have : Rm φ (B.take (i + 1)) m := (eB m).mpr ⟨m, 0, hm'.2, fun j => by grind⟩
            exact (this.lin 1 c aB).cast fun j => by rw [e j]; grind
          · rintro ⟨hvA, hvB⟩
            obtain ⟨u', c, hu', eu'⟩ := (eB v).mp hvB
            refine ⟨fun j => 1 * v j + (-c) * a j, c, (eM _).mpr ⟨hvA.lin 1 (-c) ha, ?_⟩, fun j => by grind⟩
            exact (hu'.lin 1 c hu).cast fun j => by rw [eu' j, eb j]; grind
      · obtain ⟨J2, lj2, iJ2, eJ2⟩ := mkR J' lj' b iJ bs
        have l2 := len_add iJ iJ2 bJ eJ2
        refine ⟨J2, lj2, M', lm', iJ2, iM, fun v => ?_, fun v => ?_, by omega⟩
        · rw [eJ2 v]
          constructor
          · rintro ⟨w, c, hw, e⟩
            obtain ⟨a', b', ha', hb', e'⟩ := (eJ w).mp hw
            exact ⟨a', fun j => b' j + c * b j, ha', (eB _).mpr ⟨b', c, hb', fun j => rfl⟩, fun j => by rw [e j, e' j]; grind⟩
          · rintro ⟨a', b', ha', hb', e⟩
            obtain ⟨u', c, hu', eu'⟩ := (eB b').mp hb'
            exact ⟨fun j => a' j + u' j, c, (eJ _).mpr ⟨a', u', ha', hu', fun j => rfl⟩, fun j => by rw [e j, eu' j]; grind⟩
        · rw [eM v]
          constructor
          · rintro ⟨h1, h2⟩
            exact ⟨h1, (eB v).mpr ⟨v, 0, h2, fun j => by grind⟩⟩
          · rintro ⟨h1, h2⟩
            obtain ⟨u', c, hu', eu'⟩ := (eB v).mp h2
            by_cases c0 : c = 0
            · exact ⟨h1, hu'.cast fun j => by rw [eu' j, c0]; grind⟩
            · exfalso
              refine bJ ((eJ b).mpr ⟨fun j => (1 / c) * v j, fun j => (-(1 / c)) * u' j, h1.smul _, hu'.smul _, fun j => ?_⟩)
              show b j = 1 / c * v j + -(1 / c) * u' j
              rw [eu' j]; grind
  obtain ⟨J', lj', M', lm', iJ, iM, eJ, eM, len⟩ := step B.length (Nat.le_refl _)
  rw [List.take_length] at eJ eM
  have e1 : J = J' := hJ.ext iJ fun v => by rw [ej v, eJ v]
  have e2 : M = M' := hM.ext iM fun v => by rw [em v, eM v]
  rw [e1, e2]; exact len
end
end La

namespace La
open Lean.Grind Nm
section
variable {k : Int} {F : Type} [Field F] {φ : Kf k F} {n : Nat}
/-! ### what holds of every row, place by place, holds of every combination -/
theorem Span.read {S : (Nat → F) → Prop} {v : Nat → F} {t : Nat} {f : Nat → Nat} {g : Nat → F} (h : Span S v) (hr : ∀ r, S r → r t = dot n (fun i => r (f i)) g) : v t = dot n (fun i => v (f i)) g := by
  refine h.all (P := fun v => v t = dot n (fun i => v (f i)) g) ?_ fun c r v q e => ?_
  · exact (La.dot_zero n _ g fun j _ => by grind).symm
  · show c * r t + v t = dot n (fun i => c * r (f i) + v (f i)) g
    rw [dot_add n (fun i => c * r (f i)) (fun i => v (f i)), dot_smul c n (fun i => r (f i)), ← hr r q, ← e]
theorem nv_appL {xs ys : List Nb} (j : Nat) : nv φ (xs ++ ys) j = if j < xs.length then nv φ xs j else nv φ ys (j - xs.length) := by
  unfold nv
  split
  · rename_i h; rw [List.getD_eq_getElem?_getD, List.getElem?_append_left h, ← List.getD_eq_getElem?_getD]
  · rename_i h; rw [List.getD_eq_getElem?_getD, List.getElem?_append_right (by omega), ← List.getD_eq_getElem?_getD]
theorem nv_takeL {xs : List Nb} {m j : Nat} (h : j < m) : nv φ (xs.take m) j = nv φ xs j := by
  unfold nv
  rw [List.getD_eq_getElem?_getD, List.getElem?_take_of_lt h, ← List.getD_eq_getElem?_getD]
theorem nv_dropL {xs : List Nb} {m : Nat} (j : Nat) : nv φ (xs.drop m) j = nv φ xs (m + j) := by
  unfold nv
  rw [List.getD_eq_getElem?_getD, List.getElem?_drop, ← List.getD_eq_getElem?_getD]
/-! ### the table of ones -/
def unitRow (k : Int) (n i : Nat) : List Nb := (List.range n).map fun j => if i = j then nnum k 1 else nnum k 0
def unitM (k : Int) (n : Nat) : List (List Nb) := (List.range n).map (unitRow k n)
theorem unitRow_ok (hk : KindOk k) (n i : Nat) : (unitRow k n i).length = n ∧ OkR k (unitRow k n i) := by
  refine ⟨by unfold unitRow; simp, fun x hx => ?_⟩
  obtain ⟨j, _, rfl⟩ := List.mem_map.mp hx
  split
  · exact nnum_ok hk 1
  · exact nnum_ok hk 0
theorem unitM_get {i : Nat} (h : i < n) : (unitM k n)[i]? = some (unitRow k n i) := by unfold unitM; rw [List.getElem?_map, List.getElem?_range h]; rfl
theorem unitM_ok (hk : KindOk k) (n : Nat) : OkM k n (unitM k n) ∧ (unitM k n).length = n := by
  refine ⟨fun r hr => ?_, by unfold unitM; simp⟩
  obtain ⟨i, _, rfl⟩ := List.mem_map.mp hr
  exact unitRow_ok hk n i
theorem nv_unit {i : Nat} (hi : i < n) (j : Nat) : nv φ (unitRow k n i) j = unitF i 1 j := by
  unfold unitF
  rcases Nat.lt_or_ge j n with h | h
  · rw [nv_get φ (x := if i = j then nnum k 1 else nnum k 0) (by unfold unitRow; rw [List.getElem?_map, List.getElem?_range h]; rfl)]
    split
    · rename_i e; subst e; rw [if_pos rfl]; exact φ.num1
    · rename_i e; rw [if_neg (Ne.symm e)]; exact φ.num0
  · rw [nv_out φ (by unfold unitRow; simp; exact h), if_neg (by omega)]
/-! ### a table and its back: rows with the ones beside them -/
def besideM (k : Int) (n : Nat) (M : List (List Nb)) : List (List Nb) := List.zipWith (· ++ ·) M (unitM k n)
theorem beside_get {M : List (List Nb)} (lM : M.length = n) {i : Nat} {m : List Nb} (h : M[i]? = some m) : (besideM k n M)[i]? = some (m ++ unitRow k n i) := by
  have hi : i < n := by rw [← lM]; exact (List.getElem?_eq_some_iff.mp h).1
  unfold besideM
  rw [List.getElem?_zipWith, h, unitM_get hi]
theorem beside_mem {M : List (List Nb)} (lM : M.length = n) {r : List Nb} (h : r ∈ besideM k n M) : ∃ i m, i < n ∧ M[i]? = some m ∧ r = m ++ unitRow k n i := by
  obtain ⟨i, hi, e⟩ := List.getElem_of_mem h
  have l : i < n := by
    unfold besideM at hi
    rw [List.length_zipWith] at hi
    omega
  refine ⟨i, M[i], l, List.getElem?_eq_getElem (by omega), ?_⟩
  have := beside_get (k := k) lM (List.getElem?_eq_getElem (show i < M.length by omega))
  rw [List.getElem?_eq_getElem hi, e] at this
  exact Option.some.inj this
theorem beside_ok (hk : KindOk k) {M : List (List Nb)} (oM : OkM k n M) (lM : M.length = n) : OkM k (n + n) (besideM k n M) ∧ (besideM k n M).length = n := by
  refine ⟨fun r hr => ?_, by unfold besideM; rw [List.length_zipWith, (unitM_ok hk n).2]; omega⟩
  obtain ⟨i, m, hi, hm, rfl⟩ := beside_mem lM hr
  have o := oM m (List.mem_of_getElem? hm)
  have u := unitRow_ok hk n i
  refine ⟨by rw [List.length_append, o.1, u.1], fun x hx => ?_⟩
  rcases List.mem_append.mp hx with h | h
  · exact o.2 x h
  · exact u.2 x h
theorem nv_beside (hk : KindOk k) {M : List (List Nb)} (oM : OkM k n M) {i : Nat} {m : List Nb} (h : M[i]? = some m) (hi : i < n) : (∀ j, j < n → nv φ (m ++ unitRow k n i) j = nv φ m j) ∧ ∀ t, nv φ (m ++ unitRow k n i) (n + t) = unitF i 1 t := by
  have o := oM m (List.mem_of_getElem? h)
  refine ⟨fun j hj => by rw [nv_appL, if_pos (by omega)], fun t => ?_⟩
  rw [nv_appL, if_neg (by omega), o.1, Nat.add_sub_cancel_left, nv_unit hi]
/-- read by the ones: a combination's left part is by its right part -/
theorem beside_left (hk : KindOk k) {M : List (List Nb)} (oM : OkM k n M) (lM : M.length = n) {v : Nat → F} (hv : Rm φ (besideM k n M) v) {j : Nat} (hj : j < n) : v j = dot n (fun i => v (n + i)) (fun i => nv φ (M.getD i []) j) := by
  refine Span.read hv fun r ⟨x, hx, e⟩ => ?_
  obtain ⟨i, m, hi, hm, rfl⟩ := beside_mem lM hx
  obtain ⟨h1, h2⟩ := nv_beside (φ := φ) hk oM hm hi
  rw [e, h1 j hj, show (fun t => nv φ (m ++ unitRow k n i) (n + t)) = unitF i 1 from funext h2, dot_comm, dot_unit hi]
  have : M.getD i [] = m := by rw [List.getD_eq_getElem?_getD, hm]; rfl
  rw [this]; grind
/-- where the left block is the ones: a combination's right part is by its left part -/
theorem ones_right (hk : KindOk k) {R : List (List Nb)} (hU : R.map (List.take n) = unitM k n) {v : Nat → F} (hv : Rm φ R v) (t : Nat) : v (n + t) = dot n v (fun p => nv φ (R.getD p []) (n + t)) := by
  refine Span.read (f := fun p => p) hv fun r ⟨x, hx, e⟩ => ?_
  obtain ⟨p, hp, ep⟩ := List.getElem_of_mem hx
  have lR : R.length = n := by have := congrArg List.length hU; rw [List.length_map, (unitM_ok hk n).2] at this; exact this
  have hpn : p < n := by omega
  have eu : x.take n = unitRow k n p := by
    have := congrArg (fun l => l[p]?) hU
    simp only [List.getElem?_map] at this
    rw [List.getElem?_eq_getElem hp, ep, unitM_get hpn] at this
    exact Option.some.inj this
  have : R.getD p [] = x := by rw [List.getD_eq_getElem?_getD, List.getElem?_eq_getElem hp, ep]; rfl
  rw [e]
  have h1 : dot n (fun i => nv φ x i) (fun p => nv φ (R.getD p []) (n + t)) = dot n (unitF p 1) (fun p => nv φ (R.getD p []) (n + t)) := dot_congr fun j hj => by rw [← nv_unit (φ := φ) hpn, ← eu, nv_takeL hj]
  rw [h1, dot_comm, dot_unit hpn, this]; grind
end
end La

namespace La
open Lean.Grind Nm
section
variable {k : Int} {F : Type} [Field F] {φ : Kf k F}
/-! ### products put together -/
theorem dot_swap (n : Nat) (c : Nat → F) (b : Nat → Nat → F) (a : Nat → F) : ∀ m, dot m a (fun i => dot n (b i) c) = dot n (fun j => dot m a (fun i => b i j)) c
  | 0 => by
    rw [dot_zero n (fun j => dot 0 a fun i => b i j) c fun j _ => by simp only [dot]; grind]
    rfl
  | m + 1 => by
    have e : dot n (fun j => dot (m + 1) a (fun i => b i j)) c = dot n (fun j => dot m a (fun i => b i j)) c + dot n (fun j => a m * b m j) c := by
      rw [← dot_add]
      rfl
    rw [e, ← dot_swap n c b a m, dot_smul]
    rfl
def imgR (k : Int) (M : List (List Nb)) (x : List Nb) : List Nb := M.map fun r => ndot k r x
def prodR (k : Int) (c : Nat) (M N : List (List Nb)) : List (List Nb) := M.map fun r => (trF c N).map fun col => ndot k r col
theorem imgR_ok (hk : KindOk k) {n : Nat} {M : List (List Nb)} {x : List Nb} (oM : OkM k n M) (ox : OkR k x) : (imgR k M x).length = M.length ∧ OkR k (imgR k M x) := by
  refine ⟨by unfold imgR; rw [List.length_map], fun y hy => ?_⟩
  unfold imgR at hy
  obtain ⟨r, hr, rfl⟩ := List.mem_map.mp hy
  exact ndot_ok hk (oM r hr).2 ox
theorem trF_len (n : Nat) (M : List (List Nb)) : (trF n M).length = n := by unfold trF; simp
theorem trF_get {n i : Nat} {M : List (List Nb)} (h : i < n) : (trF n M)[i]? = some (M.map fun r => r.getD i (.z 0)) := by unfold trF; simp [h]
theorem col_ok {n j : Nat} {M : List (List Nb)} (h : OkM k n M) (hj : j < n) : (M.map fun r => r.getD j (.z 0)).length = M.length ∧ OkR k (M.map fun r => r.getD j (.z 0)) := by
  refine ⟨List.length_map _, fun x hx => ?_⟩
  obtain ⟨row, hrow, rfl⟩ := List.mem_map.mp hx
  obtain ⟨h1, h2⟩ := h row hrow
  have hj' : j < row.length := by omega
  rw [List.getD_eq_getElem?_getD, List.getElem?_eq_getElem hj']
  exact h2 _ (List.getElem_mem hj')
theorem trF_ok {n : Nat} {M : List (List Nb)} (h : OkM k n M) : OkM k M.length (trF n M) := fun r hr => by
  unfold trF at hr
  obtain ⟨j, hj, rfl⟩ := List.mem_map.mp hr
  rw [List.mem_range] at hj
  exact col_ok h hj
theorem prodR_ok (hk : KindOk k) {b c : Nat} {M N : List (List Nb)} (oM : OkM k b M) (oN : OkM k c N) : (prodR k c M N).length = M.length ∧ OkM k c (prodR k c M N) := by
  refine ⟨by unfold prodR; rw [List.length_map], fun r hr => ?_⟩
  unfold prodR at hr
  obtain ⟨m, hm, rfl⟩ := List.mem_map.mp hr
  refine ⟨by rw [List.length_map, trF_len], fun x hx => ?_⟩
  obtain ⟨col, hcol, rfl⟩ := List.mem_map.mp hx
  exact ndot_ok hk (oM m hm).2 (trF_ok oN col hcol).2
/-- the image of an image -/
theorem dot_img (hk : KindOk k) {b c : Nat} {r x : List Nb} {N : List (List Nb)} (or : OkR k r) (lr : r.length = b) (oN : OkM k c N) (lN : N.length = b) (ox : OkR k x) (lx : x.length = c) :
    ndot k r (imgR k N x) = ndot k ((trF c N).map fun col => ndot k r col) x := by
  obtain ⟨F, _, _, ⟨φ⟩⟩ := field_of hk
  obtain ⟨li, oi⟩ := imgR_ok hk oN ox
  have oT := trF_ok oN
  have oL : OkR k ((trF c N).map fun col => ndot k r col) := fun y hy => by
    obtain ⟨col, hcol, rfl⟩ := List.mem_map.mp hy
    exact ndot_ok hk or (oT col hcol).2
  have lL : ((trF c N).map fun col => ndot k r col).length = c := by rw [List.length_map, trF_len]
  refine φ.inj (ndot_ok hk or oi) (ndot_ok hk oL ox) ?_
  rw [ndot_to φ hk or oi (by rw [lr, li, lN]), ndot_to φ hk oL ox (by rw [lL, lx]), lr, lL]
  have e1 : dot b (nv φ r) (nv φ (imgR k N x)) = dot b (nv φ r) (fun i => dot c (nv φ (N.getD i [])) (nv φ x)) := dot_congr fun i hi => by
    have hi' : i < N.length := by omega
    have g : N[i]? = some N[i] := List.getElem?_eq_getElem hi'
    have ge : N.getD i [] = N[i] := by rw [List.getD_eq_getElem?_getD, g]; rfl
    have on := oN N[i] (List.getElem_mem hi')
    rw [nv_get φ (xs := imgR k N x) (x := ndot k N[i] x) (by unfold imgR; rw [List.getElem?_map, g]; rfl), ge, ndot_to φ hk on.2 ox (by rw [on.1, lx]), on.1]
  rw [e1, dot_swap c (nv φ x) (fun i => nv φ (N.getD i [])) (nv φ r) b]
  refine dot_congr fun j hj => ?_
  have g : ((trF c N).map fun col => ndot k r col)[j]? = some (ndot k r (N.map fun r => r.getD j (.z 0))) := by rw [List.getElem?_map, trF_get hj]; rfl
  have oc := col_ok oN hj
  rw [nv_get φ g, ndot_to φ hk or oc.2 (by rw [lr, oc.1, lN]), lr]
  have e2 : dot b (nv φ r) (nv φ (N.map fun r => r.getD j (.z 0))) = dot b (nv φ r) (fun i => nv φ (N.getD i []) j) := dot_congr fun i hi => by
    have hi' : i < N.length := by omega
    have g : N[i]? = some N[i] := List.getElem?_eq_getElem hi'
    have ge : N.getD i [] = N[i] := by rw [List.getD_eq_getElem?_getD, g]; rfl
    rw [nv_tr φ oN hj g, ge]
  rw [e2]
theorem img_img (hk : KindOk k) {b c : Nat} {M N : List (List Nb)} {x : List Nb} (oM : OkM k b M) (oN : OkM k c N) (lN : N.length = b) (ox : OkR k x) (lx : x.length = c) : imgR k M (imgR k N x) = imgR k (prodR k c M N) x := by
  unfold imgR prodR
  rw [List.map_map]
  exact List.map_congr_left fun r hr => dot_img hk (oM r hr).2 (oM r hr).1 oN lN ox lx
theorem col_prod {b d j : Nat} {N P : List (List Nb)} (hj : j < d) : ((prodR k d N P).map fun r => r.getD j (.z 0)) = imgR k N (P.map fun r => r.getD j (.z 0)) := by
  unfold prodR imgR
  rw [List.map_map]
  refine List.map_congr_left fun r _ => ?_
  show ((trF d P).map fun col => ndot k r col).getD j (.z 0) = _
  rw [List.getD_eq_getElem?_getD, List.getElem?_map, trF_get hj]; rfl
theorem trF_prod {d : Nat} {N P : List (List Nb)} : trF d (prodR k d N P) = (trF d P).map (imgR k N) := by
  refine List.ext_getElem? fun j => ?_
  rcases Nat.lt_or_ge j d with h | h
  · rw [trF_get h, List.getElem?_map, trF_get h, col_prod (b := 0) h]; rfl
  · rw [List.getElem?_eq_none (by rw [trF_len]; exact h), List.getElem?_eq_none (by rw [List.length_map, trF_len]; exact h)]
theorem prod_assoc (hk : KindOk k) {b c d : Nat} {M N Q : List (List Nb)} (oM : OkM k b M) (oN : OkM k c N) (lN : N.length = b) (oQ : OkM k d Q) (lQ : Q.length = c) : prodR k d (prodR k c M N) Q = prodR k d M (prodR k d N Q) := by
  unfold prodR
  rw [List.map_map]
  refine List.map_congr_left fun r hr => ?_
  show (trF d Q).map (fun col => ndot k ((trF c N).map fun col => ndot k r col) col) = (trF d (prodR k d N Q)).map fun col => ndot k r col
  rw [trF_prod, List.map_map]
  refine List.map_congr_left fun col hcol => ?_
  have oc := trF_ok oQ col hcol
  exact (dot_img hk (oM r hr).2 (oM r hr).1 oN lN oc.2 (by rw [oc.1, lQ])).symm
/-- the unit -/
theorem dot_unitRow (hk : KindOk k) {n i : Nat} {x : List Nb} (hi : i < n) (ox : OkR k x) (lx : x.length = n) : ∀ y, x[i]? = some y → ndot k (unitRow k n i) x = y := fun y hy => by
  obtain ⟨F, _, _, ⟨φ⟩⟩ := field_of hk
  obtain ⟨lu, ou⟩ := unitRow_ok hk n i
  refine φ.inj (ndot_ok hk ou ox) (ox y (List.mem_of_getElem? hy)) ?_
  rw [ndot_to φ hk ou ox (by rw [lu, lx]), lu, dot_comm]
  have e : dot n (nv φ x) (nv φ (unitRow k n i)) = dot n (nv φ x) (unitF i 1) := dot_congr fun j _ => by rw [nv_unit hi]
  rw [e, dot_unit hi, nv_get φ hy]
  grind
theorem prod_unit (hk : KindOk k) {n c : Nat} {N : List (List Nb)} (oN : OkM k c N) (lN : N.length = n) : prodR k c (unitM k n) N = N := by
  refine List.ext_getElem? fun i => ?_
  have lu := (unitM_ok hk n).2
  rcases Nat.lt_or_ge i n with h | h
  · have h' : i < N.length := by omega
    unfold prodR
    rw [List.getElem?_map, unitM_get h, List.getElem?_eq_getElem h']
    show some _ = some _
    congr 1
    have on := oN N[i] (List.getElem_mem h')
    refine List.ext_getElem? fun j => ?_
    rcases Nat.lt_or_ge j c with hj | hj
    · have hj' : j < N[i].length := by omega
      rw [List.getElem?_map, trF_get hj, List.getElem?_eq_getElem hj']
      show some _ = some _
      congr 1
      have oc := col_ok oN hj
      refine dot_unitRow hk h oc.2 (by rw [oc.1, lN]) _ ?_
      rw [List.getElem?_map, List.getElem?_eq_getElem h']
      show some (N[i].getD j (.z 0)) = some _
      rw [List.getD_eq_getElem?_getD, List.getElem?_eq_getElem hj']; rfl
    · rw [List.getElem?_eq_none (by rw [List.length_map, trF_len]; exact hj), List.getElem?_eq_none (by omega)]
  · rw [List.getElem?_eq_none (by unfold prodR; rw [List.length_map, lu]; exact h), List.getElem?_eq_none (by omega)]
theorem dot_unitCol (hk : KindOk k) {n i : Nat} {x : List Nb} (hi : i < n) (ox : OkR k x) (lx : x.length = n) : ∀ y, x[i]? = some y → ndot k x (unitRow k n i) = y := fun y hy => by
  obtain ⟨F, _, _, ⟨φ⟩⟩ := field_of hk
  obtain ⟨lu, ou⟩ := unitRow_ok hk n i
  refine φ.inj (ndot_ok hk ox ou) (ox y (List.mem_of_getElem? hy)) ?_
  rw [ndot_to φ hk ox ou (by rw [lu, lx]), lx]
  have e : dot n (nv φ x) (nv φ (unitRow k n i)) = dot n (nv φ x) (unitF i 1) := dot_congr fun j _ => by rw [nv_unit hi]
  rw [e, dot_unit hi, nv_get φ hy]
  grind
theorem col_unit {n j : Nat} (hj : j < n) : ((unitM k n).map fun r => r.getD j (.z 0)) = unitRow k n j := by
  unfold unitM
  rw [List.map_map]
  unfold unitRow
  refine List.map_congr_left fun i _ => ?_
  show (List.map (fun j => if i = j then nnum k 1 else nnum k 0) (List.range n)).getD j (.z 0) = _
  rw [List.getD_eq_getElem?_getD, List.getElem?_map, List.getElem?_range hj]
  show (if i = j then nnum k 1 else nnum k 0) = if j = i then nnum k 1 else nnum k 0
  by_cases h : i = j
  · rw [if_pos h, if_pos h.symm]
  · rw [if_neg h, if_neg (Ne.symm h)]
theorem unit_prod (hk : KindOk k) {n : Nat} {M : List (List Nb)} (oM : OkM k n M) : prodR k n M (unitM k n) = M := by
  unfold prodR
  have e : ∀ r ∈ M, ((trF n (unitM k n)).map fun col => ndot k r col) = r := fun r hr => by
    have or := oM r hr
    refine List.ext_getElem? fun j => ?_
    rcases Nat.lt_or_ge j n with hj | hj
    · have hj' : j < r.length := by omega
      rw [List.getElem?_map, trF_get hj, col_unit hj, List.getElem?_eq_getElem hj']
      show some _ = some _
      congr 1
      exact dot_unitCol hk hj or.2 or.1 _ (List.getElem?_eq_getElem hj')
    · rw [List.getElem?_eq_none (by rw [List.length_map, trF_len]; exact hj), List.getElem?_eq_none (by omega)]
  rw [List.map_congr_left e, List.map_id']
end
end La

namespace L2
open PySem PySem.Spec PyProof.Rows Nm
/-! ### // of any size -/
def TopOk (X : Cx) : Prop := ∃ env l, X.stack = env :: l ∧ env.scope.isGenerator = false ∧ env.scope.isCoroutine = false ∧ env.builtins = builtinsNs ∧ env.globals = mainGlobals
theorem op_fdivU {X : Cx} {k : Nat} (hr : Room k X.A) (hk : 40 ≤ k) (hP : X.prog.given.tree = none) (hS : X.base.NoSeer) (hT : TopOk X) : OpR X (binaryOp .FloorDiv) (rI (fun _ j => j ≠ 0) fun i j => .int (i.fdiv j)) := by
  intro pins s σ H x y v u Q I rx ry h
  obtain ⟨i, j, rfl, rfl, hc, q⟩ := h
  obtain ⟨t, rfl⟩ := rx
  obtain ⟨t', rfl⟩ := ry
  obtain ⟨env, l, e, h1, h2, h3, h4⟩ := hT
  have hd : X.A.depth + Builtin.pylongFrames < recursionLimit := by
    have := hr.dp
    have : Builtin.pylongFrames = 100 := rfl
    omega
  exact floordiv_int hc ⟨.int (i.fdiv j), H, I.tok _, ⟨_, rfl⟩, q⟩ (.inr (PylongRoom.of I.nolimit hd (SeerAt.of (hS.keeps I.bk) hP (I.ok.frames.trans (congrArg some e)) h1 h2 h3 h4)))
/-! ### rows of whole numbers, fresh rows and tables -/
def IRow (H : Hp) (ws : List Int) (a : Addr) : Prop := H a = some (.lst (ws.map V.int))
theorem IRow.mono {H H' : Hp} {ws : List Int} {a : Addr} (h : IRow H ws a) (g : Same H H') : IRow H' ws a := g _ _ h
/-- a table made anew: rows of their own -/
structure NewT (H H' : Hp) (M : List (List Nb)) (top : Addr) (ras : List Addr) : Prop where
  tab : TabAt H' M top ras
  ft : H top = none
  fr : ∀ r ∈ ras, H r = none
  nd : ras.Nodup
  nt : top ∉ ras
structure NewR (H H' : Hp) (xs : List Nb) (a : Addr) : Prop where
  row : RowAt H' xs a
  fa : H a = none
theorem Same.none {H H' : Hp} (g : Same H H') {p : Addr} (h : H' p = none) : H p = none := by
  cases e : H p with
  | none => rfl
  | some u => rw [g _ _ e] at h; cases h
theorem same_upd {H H' : Hp} {p : Addr} {o : HO} (g : Same H H') (h : H p = none) : Same H (upd H' p o) := fun b u q => by
  rw [upd_ne (ne_of_none q h)]; exact g _ _ q
theorem RowAt.len {H : Hp} {xs : List Nb} {a : Addr} (h : RowAt H xs a) : ∃ vs, H a = some (.lst vs) ∧ Paired (RN H) xs vs ∧ vs.length = xs.length :=
  let ⟨vs, h1, h2⟩ := h
  ⟨vs, h1, h2, (pd_len h2).symm⟩
theorem pd_of {α β : Type} {R : α → β → Prop} : ∀ {xs : List α} {ys : List β}, xs.length = ys.length → (∀ (i : Nat) (a : α) (b : β), xs[i]? = some a → ys[i]? = some b → R a b) → Paired R xs ys
  | [], [], _, _ => .nil
  | [], _ :: _, h, _ => by simp at h
  | _ :: _, [], h, _ => by simp at h
  | a :: xs, b :: ys, h, f => .cons (f 0 a b rfl rfl) (pd_of (by simpa using h) fun i x y h1 h2 => f (i + 1) x y (by simpa using h1) (by simpa using h2))
theorem pd_get {α β : Type} {R : α → β → Prop} {xs : List α} {ys : List β} {i : Nat} {a : α} {b : β} (h : Paired R xs ys) (h1 : xs[i]? = some a) (h2 : ys[i]? = some b) : R a b := by
  obtain ⟨b', e, r⟩ := pd_left h h1
  rw [h2] at e; cases e; exact r
/-! ### sizes -/
theorem sm_one : Sm 1 1 := by unfold Sm; decide
theorem sm_zero (n : Nat) : Sm n 0 := by unfold Sm; exact Nat.pow_pos (by decide)
theorem sm_fdiv {n : Nat} {w d : Int} (h : Sm n w) (hd : d ∣ w) : Sm n (w.fdiv d) := by
  rw [Int.fdiv_eq_ediv_of_dvd hd]
  by_cases z : d = 0
  · subst z; rw [Int.ediv_zero]; exact sm_zero n
  · have e := Int.ediv_mul_cancel hd
    refine h.le ?_
    have h1 : (w / d * d).natAbs = w.natAbs := by rw [e]
    rw [Int.natAbs_mul] at h1
    rw [← h1]
    exact Nat.le_mul_of_pos_right _ (Int.natAbs_pos.mpr z)
theorem sm_fmod {n : Nat} {w k : Int} (k0 : 0 < k) (k9 : k < 99) (hn : 7 ≤ n) : Sm n (w.fmod k) :=
  (sm_rest (Int.fmod_nonneg_of_pos w k0) (Int.fmod_lt_of_pos w k0) k9).mono hn
theorem sm_sum {n : Nat} : ∀ {ws : List Int}, (∀ w ∈ ws, Sm n w) → Sm (n + ws.length) ws.sum
  | [], _ => by rw [List.sum_nil]; exact sm_zero _
  | w :: ws, h => by
    rw [List.sum_cons]
    have h1 := sm_sum (ws := ws) fun x hx => h x (List.mem_cons_of_mem _ hx)
    have h2 := (h w List.mem_cons_self).mono (Nat.le_add_right n ws.length)
    exact (h2.add h1).mono (by rw [List.length_cons]; omega)
theorem nsm_num {n : Nat} {k w : Int} (hk : KindOk k) (h : Sm n w) (hn : 7 ≤ n) : nsm n (nnum k w) := by
  unfold nnum
  split
  · exact ⟨h, Sm.mono (m := 1) sm_one (by omega)⟩
  · rename_i k0
    exact sm_fmod (by have := hk.lt; omega) hk.lt.2 hn
/-! ### (a, b, ..) = a list of that length -/
def gLst (K : PySem.W.Frag) (n : Nat) (t : TGs) : TG := fun v σ H Q => ∃ a xs, v = .ref a ∧ SqL K H a xs ∧ xs.length = n ∧ t xs σ H Q
theorem pg_lst {X : Cx} {pos : Pos} {es : List Expr} {k : Nat} {t : TGs} {n : Nat} (hc : X.calm = true) (h : PGs X es t)
    (hn : (assignEach es X.env).length = n := by rfl) (hst : (assignEach es X.env).findIdx? (·.1) = none := by rfl) : PG X (.Tuple es k pos) (gLst X.K n t) := by
  intro pins s σ H v u Q I r hw
  obtain ⟨a, xs, e1, hq, hl, hw⟩ := hw
  subst e1
  cases r
  obtain ⟨its, rv, pl, hz⟩ := I.list hq
  have e : (assignEach es X.env).length = its.toArray.size := by simp [hn, ← hl, rv.length]
  rw [assign_Tuple]
  refine wpAny_bind (wpAny_standAt ?_)
  unfold unpack
  rw [e, hst]
  refine wpAny_bind (wpAny_holding (PySem.W.kun_itemsOf (I.ok.hd hc) pl.isList fun h' hx => ?_))
  have I1 : Inv X pins σ H { s with heap := h' } := I.kept (t' := s.toks) fun b o e => hx b o (Nat.ne_of_lt (Heap.lt_size e)) e
  exact h pins _ σ H xs _ Q I1 (by simpa using rv) hw
/-! ### lcm, by steps -/
theorem lcm_step {b d : Int} (hb : 0 < b) (hd : 0 < d) : 0 < b.fdiv ((Int.gcd b d : Nat) : Int) * d ∧ b ∣ b.fdiv ((Int.gcd b d : Nat) : Int) * d ∧ d ∣ b.fdiv ((Int.gcd b d : Nat) : Int) * d ∧ ((Int.gcd b d : Nat) : Int) ≠ 0 := by
  have g0 : 0 < ((Int.gcd b d : Nat) : Int) := by have := Int.gcd_pos_of_ne_zero_left d (show b ≠ 0 by omega); omega
  have db : ((Int.gcd b d : Nat) : Int) ∣ b := Int.gcd_dvd_left b d
  have dd : ((Int.gcd b d : Nat) : Int) ∣ d := Int.gcd_dvd_right b d
  have e1 := La.fdiv_dvd db (by omega)
  have e2 := La.fdiv_dvd dd (by omega)
  have p1 : 0 < b.fdiv ((Int.gcd b d : Nat) : Int) := by
    rcases Int.lt_trichotomy 0 (b.fdiv ((Int.gcd b d : Nat) : Int)) with h | h | h
    · exact h
    · rw [← h] at e1; omega
    · have := Int.mul_neg_of_neg_of_pos h g0; omega
  refine ⟨Int.mul_pos p1 hd, ⟨d.fdiv ((Int.gcd b d : Nat) : Int), ?_⟩, Int.dvd_mul_left _ _, by omega⟩
  generalize b.fdiv ((Int.gcd b d : Nat) : Int) = x at *
  generalize d.fdiv ((Int.gcd b d : Nat) : Int) = y at *
  generalize ((Int.gcd b d : Nat) : Int) = g at *
  rw [← e1, ← e2]
  grind
/-- by rests a row is one of ints -/
theorem row_rests {k : Int} {H : Hp} (k0 : k ≠ 0) : ∀ {xs : List Nb} {vs : List V}, La.OkR k xs → Paired (RN H) xs vs → ∃ is : List Int, xs = is.map Nb.z ∧ vs = is.map V.int
  | _, _, _, .nil => ⟨[], rfl, rfl⟩
  | x :: xs, v :: vs, h, .cons r t => by
    obtain ⟨is, e1, e2⟩ := row_rests k0 (fun y hy => h y (List.mem_cons_of_mem _ hy)) t
    have hx := h x List.mem_cons_self
    cases x with
    | q a => exact absurd hx k0
    | z i => exact ⟨i :: is, by rw [e1]; rfl, by rw [e2, r.z]; rfl⟩
theorem rests_row {H : Hp} : ∀ (is : List Int), Paired (RN H) (is.map Nb.z) (is.map V.int)
  | [] => .nil
  | i :: is => .cons RN.of_z (rests_row is)
theorem scl_rests {k : Int} (k0 : k ≠ 0) (is : List Int) : La.Scl k (is.map Nb.z) is 1 :=
  ⟨by rw [List.map_map]; exact (List.map_id'' (fun _ => rfl) is).symm, by decide, fun _ => rfl, fun x hx => by
    obtain ⟨i, _, rfl⟩ := List.mem_map.mp hx
    trivial⟩
/-! ### tables that grow -/
theorem RN.upd {H : Hp} {x : Nb} {v : V} {t : Addr} {zs zs' : List V} (h : RN H x v) (ht : H t = some (.lst zs)) : RN (upd H t (.lst zs')) x v := by
  cases x with
  | q r =>
    obtain ⟨a, rfl, ha⟩ := h.q
    exact RN.of_q (by rw [upd_ne (fun e => by rw [e, ht] at ha; cases ha)]; exact ha)
  | z i => rw [h.z]; exact RN.of_z
theorem RowAt.upd {H : Hp} {xs : List Nb} {a t : Addr} {zs zs' : List V} (h : RowAt H xs a) (ne : a ≠ t) (ht : H t = some (.lst zs)) : RowAt (upd H t (.lst zs')) xs a :=
  let ⟨vs, h1, h2⟩ := h
  ⟨vs, by rw [upd_ne ne]; exact h1, pd_imp (fun _ _ r => r.upd ht) h2⟩
theorem RowAt.some {H : Hp} {xs : List Nb} {a : Addr} (h : RowAt H xs a) : ∃ o, H a = some o := let ⟨vs, h1, _⟩ := h; ⟨_, h1⟩
structure Grow (H H' : Hp) (M : List (List Nb)) (ras : List Addr) : Prop where
  same : Same H H'
  rows : Paired (RowAt H') M ras
  fr : ∀ r ∈ ras, H r = none
  nd : ras.Nodup
theorem Grow.nil (H : Hp) {H' : Hp} (g : Same H H') : Grow H H' [] [] := ⟨g, .nil, fun _ h => (nomatch h), .nil⟩
section
variable {H H' H2 : Hp} {M : List (List Nb)} {ras : List Addr}
theorem Grow.mono (G : Grow H H' M ras) (g : Same H' H2) : Grow H H2 M ras := ⟨G.same.trans g, pd_imp (fun _ _ r => r.mono g) G.rows, G.fr, G.nd⟩
theorem Grow.not_mem (G : Grow H H' M ras) {p : Addr} (hp : H' p = none) : p ∉ ras := fun hm => by
  obtain ⟨xs, _, h⟩ := pd_mem G.rows hm
  obtain ⟨o, e⟩ := h.some
  rw [hp] at e; cases e
theorem Grow.snoc (G : Grow H H' M ras) {xs : List Nb} {vs : List V} {p : Addr} (hp : H' p = none) (hr : Paired (RN H') xs vs) : Grow H (upd H' p (.lst vs)) (M ++ [xs]) (ras ++ [p]) := by
  have g := same_new hp (.lst vs)
  have G' := G.mono g
  refine ⟨G'.same, pd_snoc G'.rows ⟨vs, upd_same, pd_rn g hr⟩, fun r hr' => ?_, ?_⟩
  · rcases List.mem_append.mp hr' with h | h
    · exact G.fr r h
    · rw [List.mem_singleton.mp h]; exact G.same.none hp
  · rw [List.nodup_append]
    refine ⟨G.nd, by simp, fun a ha b hb => ?_⟩
    rw [List.mem_singleton.mp hb]
    exact fun e => G.not_mem hp (by rw [← e]; exact ha)
theorem Grow.done (G : Grow H H' M ras) {top : Addr} (ht : H' top = none) : NewT H (upd H' top (.lst (ras.map V.ref))) M top ras :=
  ⟨⟨upd_same, pd_imp (fun _ _ r => r.mono (same_new ht _)) G.rows⟩, G.same.none ht, G.fr, G.nd, G.not_mem ht⟩
/-- a row is made and appended to the table at t -/
theorem Grow.push (G : Grow H H' M ras) {t p : Addr} {xs : List Nb} {vs zs zs' : List V} (tn : H t = none) (ht : H' t = some (.lst zs)) (tr : t ∉ ras) (g : Same H' H2) (hp : H2 p = none) (hr : Paired (RN H2) xs vs) :
    Grow H (upd (upd H2 p (.lst vs)) t (.lst zs')) (M ++ [xs]) (ras ++ [p]) ∧ t ∉ ras ++ [p] := by
  have G1 := (G.mono g).snoc hp hr
  have ht2 : H2 t = some (.lst zs) := g _ _ ht
  have tp : t ≠ p := fun e => by rw [e, hp] at ht2; cases ht2
  have ht3 : upd H2 p (.lst vs) t = some (.lst zs) := by rw [upd_ne tp]; exact ht2
  have nm : t ∉ ras ++ [p] := fun h => by
    rcases List.mem_append.mp h with h | h
    · exact tr h
    · exact tp (List.mem_singleton.mp h)
  refine ⟨⟨same_upd G1.same tn, ?_, G1.fr, G1.nd⟩, nm⟩
  refine pd_of (pd_len G1.rows) fun i x a h1 h2 => (pd_get G1.rows h1 h2).upd (fun e => nm ?_) ht3
  rw [← e]
  exact List.mem_of_getElem? h2
end
/-- rows of whole numbers over one bottom, as the program keeps them -/
def SclAt (H : Hp) (k : Int) (m : Nat) (xs : List Nb) (p : Addr) : Prop := ∃ l ws b, H p = some (.tup [.ref l, .int b]) ∧ IRow H ws l ∧ La.Scl k xs ws b ∧ Sm m b ∧ ∀ w ∈ ws, Sm m w
theorem SclAt.mono {H H' : Hp} {k : Int} {m : Nat} {xs : List Nb} {p : Addr} (h : SclAt H k m xs p) (g : Same H H') : SclAt H' k m xs p :=
  let ⟨l, ws, b, h1, h2, r⟩ := h
  ⟨l, ws, b, g _ _ h1, h2.mono g, r⟩
theorem SclAt.up {H : Hp} {k : Int} {m n : Nat} {xs : List Nb} {p : Addr} (h : SclAt H k m xs p) (hm : m ≤ n) : SclAt H k n xs p :=
  let ⟨l, ws, b, h1, h2, r, sb, sw⟩ := h
  ⟨l, ws, b, h1, h2, r, sb.mono hm, fun w hw => (sw w hw).mono hm⟩
/-- columns as rows -/
def transp (n : Nat) (M : List (List Nb)) : List (List Nb) := (List.range n).map fun j => M.map fun r => r.getD j (.z 0)
theorem transp_len (n : Nat) (M : List (List Nb)) : (transp n M).length = n := by unfold transp; simp
theorem transp_get {n i : Nat} {M : List (List Nb)} (h : i < n) : (transp n M)[i]? = some (M.map fun r => r.getD i (.z 0)) := by unfold transp; simp [h]
theorem transp_ok {k : Int} {n : Nat} {M : List (List Nb)} (h : La.OkM k n M) : La.OkM k M.length (transp n M) := fun r hr => by
  unfold transp at hr
  obtain ⟨j, hj, rfl⟩ := List.mem_map.mp hr
  rw [List.mem_range] at hj
  refine ⟨List.length_map _, fun x hx => ?_⟩
  obtain ⟨row, hrow, rfl⟩ := List.mem_map.mp hx
  obtain ⟨h1, h2⟩ := h row hrow
  have hj' : j < row.length := by omega
  rw [List.getD_eq_getElem?_getD, List.getElem?_eq_getElem hj']
  exact h2 _ (List.getElem_mem hj')
def prodM (k : Int) (c : Nat) (M N : List (List Nb)) : List (List Nb) := M.map fun r => (transp c N).map fun col => La.ndot k r col
def imgM (k : Int) (M : List (List Nb)) (xs : List Nb) : List Nb := M.map fun r => La.ndot k r xs
theorem tyes {σ : St} {H : Hp} {A B : Hp → Prop} (h : A H) : tTrue σ H fun b H3 => if b = true then A H3 else B H3 := by
  show if true = true then A H else B H
  exact iteT h
theorem gyes {i : Nat} {x : V} {σ : St} {H : Hp} {A B : St → Hp → Prop} (h : A (σ.set i (some x)) H) : gName i x σ H fun σ2 H2 => tTrue σ2 H2 fun b H3 => if b = true then A σ2 H3 else B σ2 H3 := by
  show if true = true then A (σ.set i (some x)) H else B (σ.set i (some x)) H
  exact iteT h
/-- [list(row) for row in table] -/
theorem comp_copy {K : PySem.W.Frag} {te : TE} {σb : St} {t : Addr} {ras : List Addr} {M : List (List Nb)} {H : Hp} {R : List V → Hp → Prop} (hT : TabAt H M t ras) (hz : M.length < sizeLine)
    (hte : ∀ (a : Addr) (us : List V) (H' : Hp) (Q : VK), H' a = some (.lst us) → (∀ l, H' l = none → Q (.ref l) (upd H' l (.lst us))) → te (σb.set 0 (some (.ref a))) H' Q)
    (hd : ∀ (ras2 : List Addr) (H' : Hp), Grow H H' M ras2 → R (ras2.map V.ref) H') :
    ∃ W : Nat → Nat → List V → Hp → Prop, (∃ m, W 0 m [] H) ∧ ∀ i m ys H, W i m ys H →
      ((Itl K t).stop i H ∧ ys.length ≤ sizeLine ∧ R ys H) ∨
      ((Itl K t).go i H ∧ ys.length < sizeLine ∧ ∀ x H', (Itl K t).yld i H x H' → gName 0 x σb H' fun σ2 H2 => tTrue σ2 H2 fun b H3 => if b = true then te σ2 H3 fun y H4 => ∃ m', m' < m ∧ W (i + 1) m' (ys ++ [y]) H4 else ∃ m', m' < m ∧ W (i + 1) m' ys H3) := by
  have hl := pd_len hT.2
  refine comp_list (xs := ras.map V.ref) (fun i ys H' => ∃ ras2, ys = ras2.map V.ref ∧ Grow H H' (M.take i) ras2) ⟨[], rfl, Grow.nil H (Same.refl H)⟩ ?_ ?_ ?_
  · rintro i ys H' hi ⟨ras2, rfl, G⟩
    refine ⟨SqL.of (G.same _ _ hT.1), ?_⟩
    have := pd_len G.rows
    rw [List.length_take] at this
    rw [List.length_map]; omega
  · rintro i v ys H' hv hi ⟨ras2, rfl, G⟩
    obtain ⟨xs, a, hx, ha, rfl, hrow⟩ := (hT.mono G.same).row hv
    obtain ⟨us, hu, pu, lu⟩ := hrow.len
    refine gyes ?_
    refine hte a us H' _ hu fun l hl' => ?_
    refine nxt hi ⟨ras2 ++ [l], by rw [List.map_append]; rfl, ?_⟩
    rw [take_snoc hx]
    exact G.snoc hl' pu
  · rintro ys H' ⟨ras2, rfl, G⟩
    rw [List.length_map, List.take_of_length_le (by omega)] at G
    exact hd ras2 H' G
/-- lists of ints as data -/
def intsD (ns : List Int) : PyData := .list (ns.map .int)
theorem intsD_lay (ns : List Int) : (intsD ns).canLay0 = true := layAll_map PyData.int (fun _ => rfl) ns
theorem intsD_depth (ns : List Int) : (intsD ns).depth ≤ 1 := Nat.succ_le_succ (depthAll_map PyData.int 0 (fun _ => Nat.le_refl _) ns)
theorem intsD_self (ns : List Int) : PyData.eqv (intsD ns) (intsD ns) = true := eqvAll_map PyData.int (fun i => by show (i == i) = true; simp) ns
theorem rps_ints {H : Hp} : ∀ (ns : List Int), Rps H (ns.map PyData.int) (ns.map V.int)
  | [] => by simp [Rps]
  | n :: ns => by
    simp only [List.map_cons, Rps]
    exact ⟨_, _, rfl, by simp only [Rp], rps_ints ns⟩
theorem rp_ints {H : Hp} {ns : List Int} {a : Addr} (h : H a = some (.lst (ns.map V.int))) : Rp H (intsD ns) (.ref a) := by
  simp only [intsD, Rp]
  exact ⟨a, _, rfl, h, rps_ints ns⟩
/-- a list of data -/
theorem rp_list {H : Hp} {ds : List PyData} {vs : List V} {a : Addr} (h : H a = some (.lst vs)) (r : Rps H ds vs) : Rp H (.list ds) (.ref a) := by
  simp only [Rp]
  exact ⟨a, _, rfl, h, r⟩
theorem rps_cons {H : Hp} {d : PyData} {ds : List PyData} {v : V} {vs : List V} (h : Rp H d v) (r : Rps H ds vs) : Rps H (d :: ds) (v :: vs) := by
  simp only [Rps]
  exact ⟨_, _, rfl, h, r⟩
theorem rps_nil {H : Hp} : Rps H [] [] := by simp only [Rps]
/-- lists that are appended to, one after the other -/
structure Apps (Hx H' : Hp) (L : List Addr) (f : Nat → Nat) (i : Nat) : Prop where
  same : Same Hx H'
  ls : ∀ j a, L[j]? = some a → ∃ us, H' a = some (.lst us) ∧ us.length = f j + if j < i then 1 else 0
theorem Apps.step {Hx H' : Hp} {L : List Addr} {f : Nat → Nat} {i : Nat} {a : Addr} {us : List V} {v : V} (A : Apps Hx H' L f i) (nd : L.Nodup) (fr : ∀ a ∈ L, Hx a = none) (ha : L[i]? = some a) (hu : H' a = some (.lst us)) : Apps Hx (upd H' a (.lst (us ++ [v]))) L f (i + 1) := by
  refine ⟨same_upd A.same (fr a (List.mem_of_getElem? ha)), fun j b hb => ?_⟩
  obtain ⟨ws, h1, h2⟩ := A.ls j b hb
  by_cases e : j = i
  · subst e
    rw [hb] at ha; cases ha
    rw [hu] at h1; cases h1
    refine ⟨us ++ [v], upd_same, ?_⟩
    rw [if_neg (Nat.lt_irrefl _)] at h2
    rw [if_pos (Nat.lt_succ_self _), List.length_append, h2]; rfl
  · have ne : b ≠ a := fun z => by
      subst z
      exact e ((List.getElem?_inj (List.getElem?_eq_some_iff.mp hb).1 nd).mp (hb.trans ha.symm))
    refine ⟨ws, by rw [upd_ne ne]; exact h1, ?_⟩
    rw [h2]
    by_cases h : j < i
    · rw [if_pos h, if_pos (by omega)]
    · rw [if_neg h, if_neg (by omega)]
/-! ### rules by the written part itself (within a block X.K would name the block) -/
section
variable {X : Cx} {K : PySem.W.Frag}
theorem ix_listK (hK : X.K = K) : IxR X (rIxL K) := hK ▸ ix_list
theorem ix_tupK (hK : X.K = K) : IxR X (rIxT K) := hK ▸ ix_tup
theorem sl_listK (hK : X.K = K) : SlR X (rSlL K) := hK ▸ sl_list
theorem call_lenK (hK : X.K = K) : CallR X (.builtin "len") (fun xs H Q => ∃ p ys, xs = [.ref p] ∧ (SqL K H p ys ∨ SqT K H p ys) ∧ Q (.int ys.length) H) := hK ▸ call_len_seq
theorem call_listK (hK : X.K = K) : CallR X (.type "list") (fun xs H Q => ∃ p ys, xs = [.ref p] ∧ (SqL K H p ys ∨ SqT K H p ys) ∧ ∀ l, H l = none → Q (.ref l) (upd H l (.lst ys))) := hK ▸ call_list_of
theorem call_isiK (hK : X.K = K) : CallR X (.builtin "isinstance") (rIsi K) := hK ▸ call_isi
theorem call_sumK (hc : X.calm = true) (hK : X.K = K) : CallR X (.builtin "sum") (fun xs H Q => ∃ p ns, xs = [.ref p] ∧ SqL K H p ((ns : List Int).map V.int) ∧ Q (.int ns.sum) H) := hK ▸ call_sumI hc
theorem op_inK (hK : X.K = K) : OpR X (compareOp .In) (rIn K false) := hK ▸ op_in_seq
theorem op_notInK (hK : X.K = K) : OpR X (compareOp .NotIn) (rIn K true) := hK ▸ op_notIn_seq
theorem pi_listK {tg l : Expr} {tl : TE} (hK : X.K = K) (hl : PE X l tl) : PI X tg l (iList K tl) := hK ▸ pi_list hl
theorem pi_zipK {a b : Expr} {ta : TA} {p pos : Pos} {elts : List Expr} {k1 : Nat} {tpos : Pos} (hK : X.K = K) (hg : Gl X "zip") (hm : X.mg "zip" = none) (ha : PA X [a, b] ta) (hs : starEach [a, b] X.env = [(false, eval a X.env), (false, eval b X.env)] := by rfl) (hs2 : starEach [b] X.env = [(false, eval b X.env)] := by rfl) :
    PI X (.Tuple elts k1 tpos) (.Call (.Name "zip" p) [a, b] [] pos) (iZip K ta) := hK ▸ pi_zip hg hm ha hs hs2
theorem pg_tupK {pos : Pos} {es : List Expr} {k : Nat} {t : TGs} (n : Nat) (hK : X.K = K) (hc : X.calm = true) (h : PGs X es t)
    (hn : (assignEach es X.env).length = n := by rfl) (hst : (assignEach es X.env).findIdx? (·.1) = none := by rfl) : PG X (.Tuple es k pos) (gTup K n t) := hK ▸ pg_tup hc h hn hst
theorem pg_lstK {pos : Pos} {es : List Expr} {k : Nat} {t : TGs} (n : Nat) (hK : X.K = K) (hc : X.calm = true) (h : PGs X es t)
    (hn : (assignEach es X.env).length = n := by rfl) (hst : (assignEach es X.env).findIdx? (·.1) = none := by rfl) : PG X (.Tuple es k pos) (gLst K n t) := hK ▸ pg_lst hc h hn hst
end
end L2

namespace L2
open PySem PySem.Spec PyProof.Rows Nm
/-! ### lists of rows of whole numbers -/
def IRs (H : Hp) (Ws : List (List Int)) (t : Addr) (ras : List Addr) : Prop := H t = some (.lst (ras.map V.ref)) ∧ Paired (IRow H) Ws ras
theorem pd_ir {H H' : Hp} (g : Same H H') {Ws : List (List Int)} {ras : List Addr} (h : Paired (IRow H) Ws ras) : Paired (IRow H') Ws ras := pd_imp (fun _ _ r => r.mono g) h
theorem IRs.mono {H H' : Hp} {Ws : List (List Int)} {t : Addr} {ras : List Addr} (h : IRs H Ws t ras) (g : Same H H') : IRs H' Ws t ras := ⟨g _ _ h.1, pd_ir g h.2⟩
theorem IRs.row {H : Hp} {Ws : List (List Int)} {t : Addr} {ras : List Addr} {i : Nat} {v : V} (h : IRs H Ws t ras) (e : (ras.map V.ref)[i]? = some v) : ∃ ws a, Ws[i]? = some ws ∧ ras[i]? = some a ∧ v = .ref a ∧ IRow H ws a := by
  rw [List.getElem?_map] at e
  obtain ⟨a, ha, rfl⟩ := Option.map_eq_some_iff.mp e
  obtain ⟨xs, hx, r⟩ := pd_right h.2 ha
  exact ⟨xs, a, hx, ha, rfl, r⟩
theorem IRow.ne {H : Hp} {ws : List Int} {a t : Addr} {rs : List Addr} (h : IRow H ws a) (hw : ws ≠ []) (ht : H t = some (.lst (rs.map V.ref))) : a ≠ t := fun e => by
  subst e
  unfold IRow at h
  rw [ht] at h
  cases ws with
  | nil => exact hw rfl
  | cons w ws =>
    cases rs with
    | nil => cases h
    | cons r rs => cases h
theorem pd_ir_upd {H : Hp} {t : Addr} {rs : List Addr} {o : HO} (ht : H t = some (.lst (rs.map V.ref))) {Ws : List (List Int)} {ras : List Addr} (h : Paired (IRow H) Ws ras) (hw : ∀ ws ∈ Ws, ws ≠ []) : Paired (IRow (upd H t o)) Ws ras :=
  pd_of (pd_len h) fun i ws a h1 h2 => by
    have r := pd_get h h1 h2
    show upd H t o a = _
    rw [upd_ne (r.ne (hw ws (List.mem_of_getElem? h1)) ht)]; exact r
theorem irow_at {H : Hp} {ws : List Int} {a : Addr} {j : Nat} (h : IRow H ws a) (hj : j < ws.length) : atI (ws.map V.int) (0 + (j : Int)) = some (.int (ws.getD j 0)) := by
  rw [Int.zero_add]
  refine atI_nat ?_
  rw [List.getElem?_map, List.getD_eq_getElem?_getD, List.getElem?_eq_getElem hj]; rfl
theorem cut1 (xs : List V) : cutV xs (some 1) none = xs.drop 1 := by
  unfold cutV
  cases xs with
  | nil => rfl
  | cons x xs =>
    rw [show (1 : Int) = ((1 : Nat) : Int) from rfl, HT.sIx_nat, HT.sIx_none]
    simp
/-! ### sizes of what is swept -/
def SzS (b : Nat) (s : List (Nat × List Int) × List (List Int)) : Prop := (∀ p ∈ s.1, ∀ w ∈ p.2, Sm b w) ∧ ∀ r ∈ s.2, ∀ w ∈ r, Sm b w
theorem eased_sz {k : Int} (hk : KindOk k) {b : Nat} (h7 : 7 ≤ b) {ws : List Int} (h : ∀ w ∈ ws, Sm b w) : ∀ w ∈ La.easedM k ws, Sm b w := fun w hw => by
  unfold La.easedM at hw
  split at hw
  · rename_i k0
    obtain ⟨x, _, rfl⟩ := List.mem_map.mp hw
    exact sm_fmod (by have := hk.lt; omega) hk.lt.2 h7
  · split at hw
    · exact h w hw
    · obtain ⟨x, hx, rfl⟩ := List.mem_map.mp hw
      exact sm_fdiv (h x hx) (La.gcdL_dvd hx)
theorem getD_sz {b : Nat} {ws : List Int} (h : ∀ w ∈ ws, Sm b w) (c : Nat) : Sm b (ws.getD c 0) := by
  rcases Nat.lt_or_ge c ws.length with g | g
  · rw [List.getD_eq_getElem?_getD, List.getElem?_eq_getElem g]; exact h _ (List.getElem_mem g)
  · rw [List.getD_eq_getElem?_getD, List.getElem?_eq_none g]; exact sm_zero b
theorem mixed_sz {b : Nat} {row lead : List Int} (hl : row.length = lead.length) (h1 : ∀ w ∈ row, Sm b w) (h2 : ∀ w ∈ lead, Sm b w) (c : Nat) : ∀ w ∈ La.mixed row lead c, Sm (2 * b + 1) w := fun w hw => by
  obtain ⟨j, hj, e⟩ := List.getElem_of_mem hw
  have e2 := La.mixed_getD hl c j
  rw [List.getD_eq_getElem?_getD, List.getElem?_eq_getElem hj] at e2
  have e3 : w = lead.getD c 0 * row.getD j 0 - row.getD c 0 * lead.getD j 0 := by rw [← e, ← e2]; rfl
  rw [e3]
  exact (((getD_sz h2 c).mul (getD_sz h1 j)).sub ((getD_sz h1 c).mul (getD_sz h2 j))).mono (by omega)
theorem cleared_sz {k : Int} (hk : KindOk k) {b : Nat} (h7 : 7 ≤ b) {row lead : List Int} (hl : row.length = lead.length) (h1 : ∀ w ∈ row, Sm b w) (h2 : ∀ w ∈ lead, Sm b w) (c : Nat) : ∀ w ∈ La.clearedM k lead c row, Sm (2 * b + 1) w := by
  unfold La.clearedM
  split
  · exact fun w hw => (h1 w hw).mono (by omega)
  · exact eased_sz hk (by omega) (mixed_sz hl h1 h2 c)
theorem SzS.turn {k : Int} (hk : KindOk k) {n c b : Nat} (h7 : 7 ≤ b) {s : List (Nat × List Int) × List (List Int)} (f : La.Fine k n s) (h : SzS b s) : SzS (2 * b + 1) (La.swTurn k c s) := by
  unfold La.swTurn
  cases e : s.2.filter (fun r => decide (r.getD c 0 ≠ 0)) with
  | nil => exact ⟨fun p hp w hw => (h.1 p hp w hw).mono (by omega), fun p hp w hw => (h.2 p hp w hw).mono (by omega)⟩
  | cons l rest =>
    have sub : ∀ r ∈ l :: rest, r ∈ s.2 := fun r hr => by rw [← e] at hr; exact (List.mem_filter.mp hr).1
    have hl := sub l List.mem_cons_self
    refine ⟨fun p hp => ?_, fun r hr => ?_⟩
    · rcases List.mem_append.mp hp with hp | hp
      · obtain ⟨q, hq, rfl⟩ := List.mem_map.mp hp
        exact cleared_sz hk h7 (by rw [f.dl q hq, f.wl l hl]) (h.1 q hq) (h.2 l hl) c
      · rw [List.mem_singleton.mp hp]
        exact fun w hw => (h.2 l hl w hw).mono (by omega)
    · rcases List.mem_append.mp hr with hr | hr
      · exact fun w hw => (h.2 r (List.mem_filter.mp hr).1 w hw).mono (by omega)
      · obtain ⟨q, hq, rfl⟩ := List.mem_map.mp hr
        have hq2 := sub q (List.mem_cons_of_mem _ hq)
        exact cleared_sz hk h7 (by rw [f.wl q hq2, f.wl l hl]) (h.2 q hq2) (h.2 l hl) c
theorem sz_to {k : Int} (hk : KindOk k) {n b : Nat} (h7 : 7 ≤ b) {rows : List (List Int)} (hl : ∀ r ∈ rows, r.length = n) (h : ∀ r ∈ rows, ∀ w ∈ r, Sm b w) : ∀ c, SzS ((b + 1) * 2 ^ c - 1) (La.swTo k rows c)
  | 0 => ⟨fun p hp => (nomatch hp), fun r hr w hw => by
      obtain ⟨x, hx, rfl⟩ := List.mem_map.mp hr
      exact (eased_sz hk h7 (h x hx) w hw).mono (by omega)⟩
  | c + 1 => by
    have ih := sz_to hk h7 hl h c
    have h1 : 2 ^ c ≥ 1 := Nat.one_le_two_pow
    have h2 : (b + 1) * 1 ≤ (b + 1) * 2 ^ c := Nat.mul_le_mul_left _ h1
    have e : (b + 1) * 2 ^ (c + 1) - 1 = 2 * ((b + 1) * 2 ^ c - 1) + 1 := by
      rw [Nat.pow_succ]
      have : (b + 1) * (2 ^ c * 2) = (b + 1) * 2 ^ c * 2 := by rw [Nat.mul_assoc]
      omega
    rw [e]
    exact SzS.turn hk (by omega) (La.Fine.to hk.lt.1 hl c) ih
end L2

namespace L2
open PySem PySem.Spec PyProof.Rows Nm
theorem pd_set {α β : Type} {R : α → β → Prop} {xs : List α} {ys : List β} (h : Paired R xs ys) (i : Nat) {a : α} {b : β} (r : R a b) : Paired R (xs.set i a) (ys.set i b) := by
  refine pd_of (by rw [List.length_set, List.length_set]; exact pd_len h) fun j x y h1 h2 => ?_
  by_cases e : i = j
  · subst e
    have l1 : i < xs.length := by have := (List.getElem?_eq_some_iff.mp h1).1; rw [List.length_set] at this; exact this
    have l2 : i < ys.length := by rw [← pd_len h]; exact l1
    rw [List.getElem?_set_self l1] at h1
    rw [List.getElem?_set_self l2] at h2
    cases h1; cases h2; exact r
  · rw [List.getElem?_set_ne e] at h1 h2
    exact pd_get h h1 h2
/-- t[i] = a row -/
theorem TabAt.setRow {H : Hp} {M : List (List Nb)} {t : Addr} {ras : List Addr} {i : Nat} {xs : List Nb} {a : Addr} (hT : TabAt H M t ras) (hr : RowAt H xs a) (na : a ≠ t) (nt : t ∉ ras) : TabAt (upd H t (.lst ((ras.map V.ref).set i (.ref a)))) (M.set i xs) t (ras.set i a) := by
  refine ⟨by rw [upd_same, List.map_set], ?_⟩
  refine pd_of (by rw [List.length_set, List.length_set]; exact pd_len hT.2) fun j x b h1 h2 => ?_
  have r := pd_get (pd_set hT.2 i hr) h1 h2
  refine r.upd (fun e => ?_) hT.1
  subst e
  rcases La.mem_set_or (List.mem_of_getElem? h2) with e | e
  · exact na e.symm
  · exact nt e
theorem not_mem_set {ras : List Addr} {i : Nat} {a t : Addr} (nt : t ∉ ras) (na : a ≠ t) : t ∉ ras.set i a := fun h => by
  rcases La.mem_set_or h with e | e
  · exact na e.symm
  · exact nt e
theorem NewT.not_old {H H' : Hp} {M : List (List Nb)} {top : Addr} {ras : List Addr} (h : NewT H H' M top ras) : H top = none := h.ft
theorem tab_not_mem {H : Hp} {M : List (List Nb)} {t p : Addr} {ras : List Addr} (hT : TabAt H M t ras) (hp : H p = none) : p ∉ ras := fun hm => by
  obtain ⟨xs, _, h⟩ := pd_mem hT.2 hm
  obtain ⟨o, e⟩ := h.some
  rw [hp] at e; cases e
theorem ixN_nat {n j : Nat} (h : j < n) : ixN n (j : Int) = some j := by
  unfold ixN
  rw [if_pos (by omega), if_pos (by omega)]; simp
/-! ### sizes by bottoms -/
def dM (D B : Nat) (M : List (List Nb)) : Prop := ∀ r ∈ M, ∀ x ∈ r, La.dB D B x
theorem dB_nsm {k : Int} (hk : KindOk k) {D B m : Nat} {x : Nb} (h : La.dB D B x) (ox : x.ok k) (hD0 : D ≠ 0) (hD : D < 2 ^ m) (hB : B < 2 ^ m) (m7 : 7 ≤ m) : nsm m x := by
  cases x with
  | q r =>
    obtain ⟨h1, h2⟩ := La.dB.parts hD0 h
    refine ⟨Nat.lt_of_le_of_lt h2 hB, ?_⟩
    show ((r.den : Nat) : Int).natAbs < 2 ^ m
    rw [Int.natAbs_natCast]
    exact Nat.lt_of_le_of_lt h1 hD
  | z i =>
    have := hk.lt
    exact (sm_rest ox.2.1 ox.2.2 this.2).mono m7
theorem dM_sz {k : Int} (hk : KindOk k) {D B m n : Nat} {M : List (List Nb)} (h : dM D B M) (oM : La.OkM k n M) (hD0 : D ≠ 0) (hD : D < 2 ^ m) (hB : B < 2 ^ m) (m7 : 7 ≤ m) : ∀ r ∈ M, ∀ x ∈ r, nsm m x :=
  fun r hr x hx => dB_nsm hk (h r hr x hx) ((oM r hr).2 x hx) hD0 hD hB m7
theorem dM_set {D B : Nat} {M : List (List Nb)} {i : Nat} {xs : List Nb} (h : dM D B M) (hx : ∀ x ∈ xs, La.dB D B x) : dM D B (M.set i xs) := fun r hr => by
  rcases La.mem_set_or hr with e | e
  · rw [e]; exact hx
  · exact h r e
theorem okM_set {k : Int} {n : Nat} {M : List (List Nb)} {i : Nat} {xs : List Nb} (h : La.OkM k n M) (hx : xs.length = n ∧ La.OkR k xs) : La.OkM k n (M.set i xs) := fun r hr => by
  rcases La.mem_set_or hr with e | e
  · rw [e]; exact hx
  · exact h r e
def D6 (t : Nat) : Nat := 6 ^ t * 60
def B18 (t : Nat) : Nat := 18 ^ t * 60000
theorem d6_ne (t : Nat) : D6 t ≠ 0 := by unfold D6; have : 6 ^ t > 0 := Nat.pow_pos (by decide); omega
theorem d6_lt {t : Nat} (h : t ≤ 20) : D6 t < 2 ^ 110 ∧ B18 t < 2 ^ 110 := by
  have h1 : 6 ^ t ≤ 6 ^ 20 := Nat.pow_le_pow_right (by decide) h
  have h2 : 18 ^ t ≤ 18 ^ 20 := Nat.pow_le_pow_right (by decide) h
  have e1 : 6 ^ 20 * 60 < 2 ^ 110 := by decide
  have e2 : 18 ^ 20 * 60000 < 2 ^ 110 := by decide
  unfold D6 B18
  exact ⟨Nat.lt_of_le_of_lt (Nat.mul_le_mul_right _ h1) e1, Nat.lt_of_le_of_lt (Nat.mul_le_mul_right _ h2) e2⟩
theorem d6_succ (t : Nat) : D6 (t + 1) = 6 * D6 t ∧ B18 (t + 1) = 18 * B18 t := by
  unfold D6 B18
  rw [Nat.pow_succ, Nat.pow_succ]
  constructor
  · rw [Nat.mul_comm (6 ^ t) 6, Nat.mul_assoc]
  · rw [Nat.mul_comm (18 ^ t) 18, Nat.mul_assoc]
theorem dB_next {t : Nat} {x : Nb} (h : La.dB (D6 t) (B18 t) x) : La.dB (D6 (t + 1)) (B18 (t + 1)) x := by
  rw [(d6_succ t).1, (d6_succ t).2]
  exact La.dB.up h 6 18 (by decide)
theorem dM_next {t : Nat} {M : List (List Nb)} (h : dM (D6 t) (B18 t) M) : dM (D6 (t + 1)) (B18 (t + 1)) M := fun r hr x hx => dB_next (h r hr x hx)
theorem dB_times {k : Int} {t : Nat} {c x : Nb} (hc : La.dB 6 18 c) (h : La.dB (D6 t) (B18 t) x) (oc : c.ok k) (ox : x.ok k) : La.dB (D6 (t + 1)) (B18 (t + 1)) (nmul k c x) := by
  rw [(d6_succ t).1, (d6_succ t).2]
  exact La.dB.mul hc h oc ox
theorem dB_put {k : Int} (hk : KindOk k) {t : Nat} {c x y : Nb} (hc : La.dB 6 12 c) (hx : La.dB (D6 t) (B18 t) x) (hy : La.dB (D6 t) (B18 t) y) (oc : c.ok k) (ox : x.ok k) (oy : y.ok k) : La.dB (D6 (t + 1)) (B18 (t + 1)) (nadd k x (nmul k c y)) := by
  rw [(d6_succ t).1, (d6_succ t).2]
  have h1 := La.dB.up hx 6 6 (by decide)
  have h2 := La.dB.mul hc hy oc oy
  exact (La.dB.add h1 h2 ox (La.zmul_ok hk oc oy)).mono (by omega)
theorem frac60 {t b : Int} (h1 : 1 ≤ b) (h6 : b ≤ 6) (h0 : -999 ≤ t) (h9 : t ≤ 999) : La.dB 60 60000 (.q (Rat.divInt t b)) := by
  rcases (show b = 1 ∨ b = 2 ∨ b = 3 ∨ b = 4 ∨ b = 5 ∨ b = 6 by omega) with e | e | e | e | e | e
  · exact La.dB.frac (by omega) 60 (by rw [e]; decide) (by omega)
  · exact La.dB.frac (by omega) 30 (by rw [e]; decide) (by omega)
  · exact La.dB.frac (by omega) 20 (by rw [e]; decide) (by omega)
  · exact La.dB.frac (by omega) 15 (by rw [e]; decide) (by omega)
  · exact La.dB.frac (by omega) 12 (by rw [e]; decide) (by omega)
  · exact La.dB.frac (by omega) 10 (by rw [e]; decide) (by omega)
/-- a row that stands already is appended to the table at t -/
theorem Grow.put {H H' : Hp} {M : List (List Nb)} {ras : List Addr} (G : Grow H H' M ras) {t p : Addr} {xs : List Nb} {zs zs' : List V} (tn : H t = none) (ht : H' t = some (.lst zs)) (tr : t ∉ ras) (hr : RowAt H' xs p) (hp : H p = none) (np : p ∉ ras) (tp : t ≠ p) :
    Grow H (upd H' t (.lst zs')) (M ++ [xs]) (ras ++ [p]) ∧ t ∉ ras ++ [p] := by
  have nm : t ∉ ras ++ [p] := fun h => by
    rcases List.mem_append.mp h with h | h
    · exact tr h
    · exact tp (List.mem_singleton.mp h)
  have pr := pd_snoc G.rows hr
  refine ⟨⟨same_upd G.same tn, ?_, fun r hr' => ?_, ?_⟩, nm⟩
  · refine pd_of (pd_len pr) fun i x a h1 h2 => (pd_get pr h1 h2).upd (fun e => nm ?_) ht
    rw [← e]
    exact List.mem_of_getElem? h2
  · rcases List.mem_append.mp hr' with h | h
    · exact G.fr r h
    · rw [List.mem_singleton.mp h]; exact hp
  · rw [List.nodup_append]
    refine ⟨G.nd, by simp, fun a ha b hb e => np ?_⟩
    rw [← List.mem_singleton.mp hb, ← e]; exact ha
theorem pd_rn_upd {H : Hp} {t : Addr} {zs zs' : List V} (ht : H t = some (.lst zs)) {xs : List Nb} {vs : List V} (h : Paired (RN H) xs vs) : Paired (RN (upd H t (.lst zs'))) xs vs := pd_imp (fun _ _ r => r.upd ht) h
/-- lists of small whole numbers -/
def natV (L : List Nat) : List V := L.map fun (l : Nat) => V.int (l : Int)
theorem natV_flat (L : List Nat) : (natV L).all flatV = true := by
  unfold natV
  rw [List.all_map]
  exact List.all_eq_true.mpr fun _ _ => rfl
theorem inV_nat (j : Nat) (L : List Nat) : inV (.int (j : Int)) (natV L) = decide (j ∈ L) := by
  unfold inV natV
  rw [List.any_map]
  by_cases h : j ∈ L
  · rw [decide_eq_true h, List.any_eq_true]
    exact ⟨j, h, by show ((j : Int) == (j : Int)) = true; simp⟩
  · rw [decide_eq_false h, List.any_eq_false]
    intro x hx
    show ¬ ((x : Int) == (j : Int)) = true
    intro e
    have : (x : Int) = (j : Int) := by simpa using e
    exact h (by rw [show j = x by omega]; exact hx)
/-- what stands behind a statement, shown once -/
theorem seq_share {t u : TS} {D : Ends} {σ : St} {H : Hp} (N : St → Hp → Prop) (hN : ∀ σ H, N σ H → u D σ H) (h : (∀ σ H, N σ H → u D σ H) → t { D with nx := u D } σ H) : tSeq t u D σ H := h hN
end L2

namespace L2
open PySem PySem.Spec PyProof.Rows Nm
theorem rep_one (v : V) : ∀ n : Nat, (List.replicate n [v]).flatten = List.replicate n v
  | 0 => rfl
  | n + 1 => by rw [List.replicate_succ, List.flatten_cons, rep_one v n, List.replicate_succ]; rfl
theorem pd_rep {R : Nb → V → Prop} {x : Nb} {v : V} (r : R x v) : ∀ n : Nat, Paired R (List.replicate n x) (List.replicate n v)
  | 0 => .nil
  | n + 1 => by rw [List.replicate_succ, List.replicate_succ]; exact .cons r (pd_rep r n)
/-- of a reduced row: noughts, then one -/
theorem isR_row {k : Int} {F : Type} [Lean.Grind.Field F] {φ : La.Kf k F} (hk : KindOk k) {n i l : Nat} {R : List (List Nb)} {ls : List Nat} {r : List Nb} (h : La.IsR φ n R ls) (hr : R[i]? = some r) (hl : ls[i]? = some l) :
    l < n ∧ (∀ j, j < l → r[j]? = some (nnum k 0)) ∧ r[l]? = some (nnum k 1) := by
  have o := h.ok r (List.mem_of_getElem? hr)
  have hp := La.zip_mem (xs := ls) (ys := R.map (La.nv φ)) (i := i) (a := l) (b := La.nv φ r) hl (by rw [List.getElem?_map, hr]; rfl)
  have ln : l < n := h.rr.lt _ hp
  have val : ∀ j, j < n → ∀ y : Nb, y.ok k → La.nv φ r j = φ.to y → r[j]? = some y := fun j hj y oy e => by
    have hj' : j < r.length := by rw [o.1]; exact hj
    rw [La.nv_get φ (List.getElem?_eq_getElem hj')] at e
    rw [List.getElem?_eq_getElem hj', φ.inj (o.2 _ (List.getElem_mem hj')) oy e]
  refine ⟨ln, fun j hj => val j (by omega) _ (La.nnum_ok hk 0) ?_, val l ln _ (La.nnum_ok hk 1) ?_⟩
  · rw [φ.num0]; exact h.rr.bef _ hp j hj
  · rw [φ.num1]; exact h.rr.one _ hp
theorem isR_nodup {k : Int} {F : Type} [Lean.Grind.Field F] {φ : La.Kf k F} {n : Nat} {R : List (List Nb)} {ls : List Nat} (h : La.IsR φ n R ls) : ls.Nodup := by
  have := h.rr.inc
  rw [← List.pairwise_map (f := Prod.fst) (R := (· < ·)), List.map_fst_zip (by rw [List.length_map]; exact Nat.le_of_eq h.len)] at this
  exact this.imp fun h => Nat.ne_of_lt h
theorem num01 {k : Int} (hk : KindOk k) : nnum k 1 ≠ nnum k 0 := fun e => by
  obtain ⟨F, _, _, ⟨φ⟩⟩ := La.field_of hk
  have := congrArg φ.to e
  rw [φ.num0, φ.num1] at this
  exact Lean.Grind.Field.zero_ne_one this.symm
/-- told, as far as i rows -/
structure ToldI (k : Int) (n : Nat) (R : List (List Nb)) (ls : List Nat) (i : Nat) (x : List Nb) : Prop where
  len : x.length = n
  at_ : ∀ (t l : Nat) (r : List Nb) (s : Nb), t < i → ls[t]? = some l → R[t]? = some r → r[n]? = some s → x[l]? = some s
  off : ∀ j, j < n → j ∉ ls.take i → x[j]? = some (nnum k 0)
theorem ToldI.start (k : Int) (n : Nat) (R : List (List Nb)) (ls : List Nat) : ToldI k n R ls 0 (List.replicate n (nnum k 0)) :=
  ⟨List.length_replicate, fun t l r s h => absurd h (Nat.not_lt_zero t), fun j hj _ => by rw [List.getElem?_replicate, if_pos hj]⟩
theorem ToldI.step {k : Int} {n i l : Nat} {R : List (List Nb)} {ls : List Nat} {x r : List Nb} {s : Nb} (T : ToldI k n R ls i x) (nd : ls.Nodup) (hl : ls[i]? = some l) (hr : R[i]? = some r) (hs : r[n]? = some s) (ln : l < n) : ToldI k n R ls (i + 1) (x.set l s) := by
  refine ⟨by rw [List.length_set]; exact T.len, fun t l' r' s' ht hl' hr' hs' => ?_, fun j hj nm => ?_⟩
  · by_cases e : t = i
    · subst e
      rw [hl] at hl'; cases hl'
      rw [hr] at hr'; cases hr'
      rw [hs] at hs'; cases hs'
      rw [List.getElem?_set_self (by rw [T.len]; exact ln)]
    · have ne : l' ≠ l := fun z => e ((List.getElem?_inj (List.getElem?_eq_some_iff.mp hl').1 nd).mp (by rw [hl', hl, z]))
      rw [List.getElem?_set_ne (Ne.symm ne)]
      exact T.at_ t l' r' s' (by omega) hl' hr' hs'
  · rw [take_snoc hl] at nm
    have n1 : j ∉ ls.take i := fun h => nm (List.mem_append_left _ h)
    have n2 : j ≠ l := fun h => nm (List.mem_append_right _ (by rw [h]; exact List.mem_singleton.mpr rfl))
    rw [List.getElem?_set_ne (Ne.symm n2)]
    exact T.off j hj n1
theorem ToldI.told {k : Int} {n : Nat} {R : List (List Nb)} {ls : List Nat} {x : List Nb} (T : ToldI k n R ls R.length x) (hl : ls.length = R.length) : La.Told k n R ls x :=
  ⟨T.len, fun i l r s h1 h2 h3 => T.at_ i l r s (List.getElem?_eq_some_iff.mp h2).1 h1 h2 h3, fun j hj nm => T.off j hj (by rw [List.take_of_length_le (by omega)]; exact nm)⟩
theorem tab_upd {H : Hp} {M : List (List Nb)} {top t : Addr} {ras : List Addr} {zs zs' : List V} (h : TabAt H M top ras) (n1 : top ≠ t) (n2 : t ∉ ras) (ht : H t = some (.lst zs)) : TabAt (upd H t (.lst zs')) M top ras :=
  ⟨by rw [upd_ne n1]; exact h.1, pd_of (pd_len h.2) fun i x a h1 h2 => (pd_get h.2 h1 h2).upd (fun e => n2 (by rw [← e]; exact List.mem_of_getElem? h2)) ht⟩
theorem rat_stepL (r x y : Rat) : Rat.divInt (r.num * x.den * y.den + x.num * y.num * r.den) (r.den * x.den * y.den) = r + x * y := by
  rw [Rat.divInt_eq_div]
  have h1 : r * ((r.den : Int) : Rat) = ((r.num : Int) : Rat) := La.kfRat.rat r rfl
  have h2 : x * ((x.den : Int) : Rat) = ((x.num : Int) : Rat) := La.kfRat.rat x rfl
  have h3 : y * ((y.den : Int) : Rat) = ((y.num : Int) : Rat) := La.kfRat.rat y rfl
  have n1 : ((r.den : Int) : Rat) ≠ 0 := fun z => den_ne r (Rat.intCast_eq_zero_iff.mp z)
  have n2 : ((x.den : Int) : Rat) ≠ 0 := fun z => den_ne x (Rat.intCast_eq_zero_iff.mp z)
  have n3 : ((y.den : Int) : Rat) ≠ 0 := fun z => den_ne y (Rat.intCast_eq_zero_iff.mp z)
  rw [Rat.intCast_add, Rat.intCast_mul, Rat.intCast_mul, Rat.intCast_mul, Rat.intCast_mul, Rat.intCast_mul, Rat.intCast_mul]
  generalize ((r.den : Int) : Rat) = a at *
  generalize ((x.den : Int) : Rat) = b at *
  generalize ((y.den : Int) : Rat) = c at *
  generalize ((r.num : Int) : Rat) = a' at *
  generalize ((x.num : Int) : Rat) = b' at *
  generalize ((y.num : Int) : Rat) = c' at *
  grind
theorem ndot_sm {k : Int} (hk : KindOk k) {m : Nat} (m7 : 7 ≤ m) : ∀ (l : List (Nb × Nb)), (∀ p ∈ l, p.1.ok k ∧ p.2.ok k ∧ nsm m p.1 ∧ nsm m p.2) → ∀ s : Nb, s.ok k → ∀ T, 7 ≤ T → nsm T s → nsm (T + l.length * (2 * m + 1)) (l.foldl (fun s p => nadd k s (nmul k p.1 p.2)) s)
  | [], _, s, _, T, _, h => by simpa using h
  | p :: l, hl, s, os, T, t7, h => by
    obtain ⟨o1, o2, s1, s2⟩ := hl p List.mem_cons_self
    have om := La.zmul_ok hk o1 o2
    have step : nsm (T + (2 * m + 1)) (nadd k s (nmul k p.1 p.2)) := by
      obtain ⟨x, y⟩ := p
      rcases ok_pair o1 o2 with ⟨k0, r, t, rfl, rfl⟩ | ⟨k0, i, j, rfl, rfl, _⟩
      · cases s with
        | z i => exact absurd k0 os.1
        | q u =>
          show Sm _ (u + r * t).num ∧ Sm _ ((u + r * t).den : Int)
          rw [← rat_stepL]
          have hb : (u.den : Int) * r.den * t.den ≠ 0 := Int.mul_ne_zero (Int.mul_ne_zero (den_ne u) (den_ne r)) (den_ne t)
          have st : Sm (T + m + m + 1) (u.num * r.den * t.den + r.num * t.num * u.den) := ((h.1.mul s1.2).mul s2.2).add (((s1.1.mul s2.1).mul h.2).mono (by omega))
          have d := divInt_sm hb st ((h.2.mul s1.2).mul s2.2)
          exact ⟨d.1.mono (by omega), d.2.mono (by omega)⟩
      · cases s with
        | q u => exact absurd (show k = 0 from os) k0
        | z u => exact (sm_ok hk k0 (by omega) _ : nsm (T + (2 * m + 1)) (.z _))
    have := ndot_sm hk m7 l (fun q hq => hl q (List.mem_cons_of_mem _ hq)) _ (La.zadd_ok hk os om) _ (by omega) step
    rw [List.foldl_cons]
    refine this.mono ?_
    rw [List.length_cons, Nat.add_mul]
    omega
theorem ndot_size {k : Int} (hk : KindOk k) {m : Nat} (m7 : 7 ≤ m) {xs ys : List Nb} (ox : La.OkR k xs) (oy : La.OkR k ys) (sx : ∀ x ∈ xs, nsm m x) (sy : ∀ y ∈ ys, nsm m y) : nsm (7 + xs.length * (2 * m + 1)) (La.ndot k xs ys) := by
  unfold La.ndot La.ndotF
  have h := ndot_sm hk m7 (xs.zip ys) (fun p hp => by
    obtain ⟨a, b⟩ := p
    obtain ⟨h1, h2⟩ := List.of_mem_zip hp
    exact ⟨ox _ h1, oy _ h2, sx _ h1, sy _ h2⟩) (nnum k 0) (La.nnum_ok hk 0) 7 (by decide) (nsm_num hk (sm_zero 7) (by decide))
  refine h.mono ?_
  rw [List.length_zip]
  have : min xs.length ys.length * (2 * m + 1) ≤ xs.length * (2 * m + 1) := Nat.mul_le_mul_right _ (Nat.min_le_left _ _)
  omega
theorem sol_img {k : Int} (hk : KindOk k) {n : Nat} {M : List (List Nb)} {b x : List Nb} (oM : La.OkM k n M) (ob : La.OkR k b) (ox : La.OkR k x) (lb : b.length = M.length) (lx : x.length = n) (h : ∀ (F : Type) [Lean.Grind.Field F] (φ : La.Kf k F), La.Sol φ n M b (La.nv φ x)) : imgM k M x = b := by
  obtain ⟨F, _, _, ⟨φ⟩⟩ := La.field_of hk
  refine List.ext_getElem (by unfold imgM; rw [List.length_map]; exact lb.symm) fun i h1 h2 => ?_
  unfold imgM at h1 ⊢
  rw [List.length_map] at h1
  rw [List.getElem_map]
  have or := oM _ (List.getElem_mem h1)
  refine φ.inj (La.ndot_ok hk or.2 ox) (ob _ (List.getElem_mem h2)) ?_
  rw [La.ndot_to φ hk or.2 ox (by rw [or.1, lx]), or.1]
  exact h F φ i _ _ (List.getElem?_eq_getElem h1) (List.getElem?_eq_getElem h2)
theorem sol_never {k : Int} (hk : KindOk k) {n : Nat} {M : List (List Nb)} {b y : List Nb} (oM : La.OkM k n M) (ob : La.OkR k b) (oy : La.OkR k y) (lb : b.length = M.length) (ly : y.length = M.length)
    (h : ∀ (F : Type) [Lean.Grind.Field F] (φ : La.Kf k F), La.Sol φ M.length (transp n M ++ [b]) (List.replicate n (nnum k 0) ++ [nnum k 1]) (La.nv φ y)) :
    (∀ j, j < n → La.ndot k y (M.map fun r => r.getD j (.z 0)) = nnum k 0) ∧ La.ndot k y b = nnum k 1 := by
  obtain ⟨F, _, _, ⟨φ⟩⟩ := La.field_of hk
  have lt := transp_len n M
  constructor
  · intro j hj
    have hg := transp_get (M := M) hj
    have oc := transp_ok oM _ (List.mem_of_getElem? hg)
    refine φ.inj (La.ndot_ok hk oy oc.2) (La.nnum_ok hk 0) ?_
    rw [La.ndot_to φ hk oy oc.2 (by rw [ly, oc.1]), ly, La.dot_comm]
    exact h F φ j _ _ (by rw [List.getElem?_append_left (by omega)]; exact hg) (by rw [List.getElem?_append_left (by rw [List.length_replicate]; exact hj), List.getElem?_replicate, if_pos hj])
  · refine φ.inj (La.ndot_ok hk oy ob) (La.nnum_ok hk 1) ?_
    rw [La.ndot_to φ hk oy ob (by rw [ly, lb]), ly, La.dot_comm]
    exact h F φ n _ _ (by rw [List.getElem?_append_right (by omega), lt, Nat.sub_self]; rfl) (by rw [List.getElem?_append_right (by rw [List.length_replicate]; exact Nat.le_refl _), List.length_replicate, Nat.sub_self]; rfl)
/-- [(1, 1), 1][int(kind > 0)] -/
theorem pick_one {k : Int} (hk : KindOk k) {H : Hp} {pq : Addr} (hq : H pq = some (.tup [.int 1, .int 1])) : ∃ v, atI [V.ref pq, V.int 1] (if decide (0 < k) = true then 1 else 0) = some v ∧ RN H (nnum k 1) v := by
  have kl := hk.lt
  by_cases k0 : 0 < k
  · refine ⟨.int 1, by rw [decide_eq_true k0]; rfl, ?_⟩
    have e : nnum k 1 = .z 1 := by
      unfold nnum
      rw [if_neg (by omega)]
      rcases hk with h | h
      · omega
      · have := h.lo
        rw [Int.fmod_eq_emod_of_nonneg 1 (by omega), Int.emod_eq_of_lt (by omega) (by omega)]
    rw [e]; exact RN.of_z
  · refine ⟨.ref pq, by rw [decide_eq_false k0]; rfl, ?_⟩
    have e : nnum k 1 = .q 1 := by unfold nnum; rw [if_pos (by omega)]; rfl
    rw [e]
    exact RN.of_q hq
end L2

namespace L2
open PySem PySem.Spec PyProof.Rows Nm
/-! ### sizes of sums of products, the two sides apart -/
theorem ndot_sm2 {k : Int} (hk : KindOk k) {m n : Nat} (m7 : 7 ≤ m) : ∀ (l : List (Nb × Nb)), (∀ p ∈ l, p.1.ok k ∧ p.2.ok k ∧ nsm m p.1 ∧ nsm n p.2) → ∀ s : Nb, s.ok k → ∀ T, 7 ≤ T → nsm T s → nsm (T + l.length * (m + n + 1)) (l.foldl (fun s p => nadd k s (nmul k p.1 p.2)) s)
  | [], _, s, _, T, _, h => by simpa using h
  | p :: l, hl, s, os, T, t7, h => by
    obtain ⟨o1, o2, s1, s2⟩ := hl p List.mem_cons_self
    have om := La.zmul_ok hk o1 o2
    have step : nsm (T + (m + n + 1)) (nadd k s (nmul k p.1 p.2)) := by
      obtain ⟨x, y⟩ := p
      rcases ok_pair o1 o2 with ⟨k0, r, t, rfl, rfl⟩ | ⟨k0, i, j, rfl, rfl, _⟩
      · cases s with
        | z i => exact absurd k0 os.1
        | q u =>
          show Sm _ (u + r * t).num ∧ Sm _ ((u + r * t).den : Int)
          rw [← rat_stepL]
          have hb : (u.den : Int) * r.den * t.den ≠ 0 := Int.mul_ne_zero (Int.mul_ne_zero (den_ne u) (den_ne r)) (den_ne t)
          have st : Sm (T + m + n + 1) (u.num * r.den * t.den + r.num * t.num * u.den) := ((h.1.mul s1.2).mul s2.2).add (((s1.1.mul s2.1).mul h.2).mono (by omega))
          have d := divInt_sm hb st ((h.2.mul s1.2).mul s2.2)
          exact ⟨d.1.mono (by omega), d.2.mono (by omega)⟩
      · cases s with
        | q u => exact absurd (show k = 0 from os) k0
        | z u => exact (sm_ok hk k0 (by omega) _ : nsm (T + (m + n + 1)) (.z _))
    have := ndot_sm2 hk m7 l (fun q hq => hl q (List.mem_cons_of_mem _ hq)) _ (La.zadd_ok hk os om) _ (by omega) step
    rw [List.foldl_cons]
    refine this.mono ?_
    rw [List.length_cons, Nat.add_mul]
    omega
theorem ndot_size2 {k : Int} (hk : KindOk k) {m n : Nat} (m7 : 7 ≤ m) {xs ys : List Nb} (ox : La.OkR k xs) (oy : La.OkR k ys) (sx : ∀ x ∈ xs, nsm m x) (sy : ∀ y ∈ ys, nsm n y) : nsm (7 + xs.length * (m + n + 1)) (La.ndot k xs ys) := by
  unfold La.ndot La.ndotF
  have h := ndot_sm2 hk (n := n) m7 (xs.zip ys) (fun p hp => by
    obtain ⟨a, b⟩ := p
    obtain ⟨h1, h2⟩ := List.of_mem_zip hp
    exact ⟨ox _ h1, oy _ h2, sx _ h1, sy _ h2⟩) (nnum k 0) (La.nnum_ok hk 0) 7 (by decide) (nsm_num hk (sm_zero 7) (by decide))
  refine h.mono ?_
  rw [List.length_zip]
  have : min xs.length ys.length * (m + n + 1) ≤ xs.length * (m + n + 1) := Nat.mul_le_mul_right _ (Nat.min_le_left _ _)
  omega
/-- by rests nothing grows -/
theorem nsm_rest {k : Int} (hk : KindOk k) (k0 : k ≠ 0) {x : Nb} (h : x.ok k) : nsm 7 x := by
  cases x with
  | q r => exact absurd (show k = 0 from h) k0
  | z i => exact sm_rest h.2.1 h.2.2 hk.lt.2
/-! ### rows and machines -/
structure ROk (k : Int) (n m : Nat) (xs : List Nb) : Prop where
  len : xs.length = n
  ok : La.OkR k xs
  sz : ∀ x ∈ xs, nsm m x
theorem ROk.up {k : Int} {n m m' : Nat} {xs : List Nb} (h : ROk k n m xs) (hm : m ≤ m') : ROk k n m' xs := ⟨h.len, h.ok, fun x hx => (h.sz x hx).mono hm⟩
structure TOk (k : Int) (r c m : Nat) (M : List (List Nb)) : Prop where
  len : M.length = r
  ok : La.OkM k c M
  sz : ∀ r ∈ M, ∀ x ∈ r, nsm m x
theorem TOk.up {k : Int} {r c m m' : Nat} {M : List (List Nb)} (h : TOk k r c m M) (hm : m ≤ m') : TOk k r c m' M := ⟨h.len, h.ok, fun r hr x hx => (h.sz r hr x hx).mono hm⟩
theorem TOk.row {k : Int} {r c m : Nat} {M : List (List Nb)} (h : TOk k r c m M) {x : List Nb} (hx : x ∈ M) : ROk k c m x := ⟨(h.ok x hx).1, (h.ok x hx).2, h.sz x hx⟩
theorem ROk.app {k : Int} {n n' m : Nat} {xs ys : List Nb} (h : ROk k n m xs) (h' : ROk k n' m ys) : ROk k (n + n') m (xs ++ ys) :=
  ⟨by rw [List.length_append, h.len, h'.len], fun x hx => (List.mem_append.mp hx).elim (h.ok x) (h'.ok x), fun x hx => (List.mem_append.mp hx).elim (h.sz x) (h'.sz x)⟩
theorem img_rok {k : Int} (hk : KindOk k) {r c m m' : Nat} (m7 : 7 ≤ m) {M : List (List Nb)} {x : List Nb} (hM : TOk k r c m M) (hx : ROk k c m' x) : ROk k r (7 + c * (m + m' + 1)) (imgM k M x) := by
  refine ⟨by unfold imgM; rw [List.length_map, hM.len], fun y hy => ?_, fun y hy => ?_⟩
  all_goals
    unfold imgM at hy
    obtain ⟨row, hr, rfl⟩ := List.mem_map.mp hy
  · exact La.ndot_ok hk (hM.ok row hr).2 hx.ok
  · have := ndot_size2 hk m7 (hM.ok row hr).2 hx.ok (hM.sz row hr) hx.sz
    rw [(hM.ok row hr).1] at this
    exact this
theorem tr_tok {k : Int} {r c m : Nat} {M : List (List Nb)} (hM : TOk k r c m M) : TOk k c r m (transp c M) := by
  refine ⟨transp_len _ _, by have := transp_ok hM.ok; rw [hM.len] at this; exact this, fun q hq x hx => ?_⟩
  unfold transp at hq
  obtain ⟨j, hj, rfl⟩ := List.mem_map.mp hq
  rw [List.mem_range] at hj
  obtain ⟨row, hrow, rfl⟩ := List.mem_map.mp hx
  have hj' : j < row.length := by have := (hM.ok row hrow).1; omega
  rw [List.getD_eq_getElem?_getD, List.getElem?_eq_getElem hj']
  exact hM.sz row hrow _ (List.getElem_mem hj')
theorem prod_tok {k : Int} (hk : KindOk k) {r b c m m' : Nat} (m7 : 7 ≤ m) {M N : List (List Nb)} (hM : TOk k r b m M) (hN : TOk k b c m' N) : TOk k r c (7 + b * (m + m' + 1)) (prodM k c M N) := by
  have hT := tr_tok hN
  refine ⟨by unfold prodM; rw [List.length_map, hM.len], fun q hq => ?_, fun q hq x hx => ?_⟩
  all_goals
    unfold prodM at hq
    obtain ⟨row, hr, rfl⟩ := List.mem_map.mp hq
  · refine ⟨by rw [List.length_map, transp_len], fun x hx => ?_⟩
    obtain ⟨col, hc, rfl⟩ := List.mem_map.mp hx
    exact La.ndot_ok hk (hM.ok row hr).2 (hT.ok col hc).2
  · obtain ⟨col, hc, rfl⟩ := List.mem_map.mp hx
    have := ndot_size2 hk m7 (hM.ok row hr).2 (hT.ok col hc).2 (hM.sz row hr) (hT.sz col hc)
    rw [(hM.ok row hr).1] at this
    exact this
structure MOk (k : Int) (n h s m : Nat) (A B C : List (List Nb)) : Prop where
  a : TOk k n n m A
  b : TOk k n h m B
  c : TOk k s n m C
theorem MOk.up {k : Int} {n h s m m' : Nat} {A B C : List (List Nb)} (x : MOk k n h s m A B C) (hm : m ≤ m') : MOk k n h s m' A B C := ⟨x.a.up hm, x.b.up hm, x.c.up hm⟩
structure MachAt (H : Hp) (A B C : List (List Nb)) (p ta tb tc : Addr) (ra rb rc : List Addr) : Prop where
  tup : H p = some (.tup [.ref ta, .ref tb, .ref tc])
  a : TabAt H A ta ra
  b : TabAt H B tb rb
  c : TabAt H C tc rc
theorem MachAt.mono {H H' : Hp} {A B C : List (List Nb)} {p ta tb tc : Addr} {ra rb rc : List Addr} (h : MachAt H A B C p ta tb tc ra rb rc) (g : Same H H') : MachAt H' A B C p ta tb tc ra rb rc := ⟨g _ _ h.tup, h.a.mono g, h.b.mono g, h.c.mono g⟩
def machD (A B C : List (List Nb)) : PyData := .tuple [tabD A, tabD B, tabD C]
theorem rp_tup {H : Hp} {ds : List PyData} {vs : List V} {a : Addr} (h : H a = some (.tup vs)) (r : Rps H ds vs) : Rp H (.tuple ds) (.ref a) := by
  simp only [Rp]
  exact ⟨a, _, rfl, h, r⟩
theorem MachAt.rp {H : Hp} {A B C : List (List Nb)} {p ta tb tc : Addr} {ra rb rc : List Addr} (h : MachAt H A B C p ta tb tc ra rb rc) : Rp H (machD A B C) (.ref p) := rp_tup h.tup (rps_cons h.a.rp (rps_cons h.b.rp (rps_cons h.c.rp rps_nil)))
theorem machD_lay (A B C : List (List Nb)) : (machD A B C).canLay0 = true := by
  show ((tabD A).canLay0 && ((tabD B).canLay0 && ((tabD C).canLay0 && true))) = true
  rw [tabD_lay, tabD_lay, tabD_lay]; rfl
theorem machD_depth (A B C : List (List Nb)) : (machD A B C).depth ≤ 4 := by
  show max (tabD A).depth (max (tabD B).depth (max (tabD C).depth 0)) + 1 ≤ 4
  have := tabD_depth A
  have := tabD_depth B
  have := tabD_depth C
  omega
theorem machD_self (A B C : List (List Nb)) : PyData.eqv (machD A B C) (machD A B C) = true := by
  show (PyData.eqv (tabD A) (tabD A) && (PyData.eqv (tabD B) (tabD B) && (PyData.eqv (tabD C) (tabD C) && true))) = true
  rw [tabD_self, tabD_self, tabD_self]; rfl
/-! ### runs -/
def augM (A B : List (List Nb)) : List (List Nb) := List.zipWith (· ++ ·) A B
theorem augM_get {A B : List (List Nb)} {i : Nat} {a b : List Nb} (hA : A[i]? = some a) (hB : B[i]? = some b) : (augM A B)[i]? = some (a ++ b) := by unfold augM; rw [List.getElem?_zipWith, hA, hB]
theorem augM_tok {k : Int} {r c c' m : Nat} {A B : List (List Nb)} (hA : TOk k r c m A) (hB : TOk k r c' m B) : TOk k r (c + c') m (augM A B) := by
  have row : ∀ q ∈ augM A B, ROk k (c + c') m q := fun q hq => by
    obtain ⟨i, hi⟩ := List.mem_iff_getElem?.mp hq
    have hl : i < (augM A B).length := (List.getElem?_eq_some_iff.mp hi).1
    unfold augM at hl
    rw [List.length_zipWith, hA.len, hB.len] at hl
    have i1 : i < A.length := by rw [hA.len]; omega
    have i2 : i < B.length := by rw [hB.len]; omega
    rw [augM_get (List.getElem?_eq_getElem i1) (List.getElem?_eq_getElem i2)] at hi
    cases hi
    exact (hA.row (List.getElem_mem i1)).app (hB.row (List.getElem_mem i2))
  exact ⟨by unfold augM; rw [List.length_zipWith, hA.len, hB.len]; omega, fun q hq => ⟨(row q hq).len, (row q hq).ok⟩, fun q hq => (row q hq).sz⟩
def nextM (k : Int) (A B : List (List Nb)) (xs us : List Nb) : List Nb := imgM k (augM A B) (xs ++ us)
def stM (k : Int) (A B : List (List Nb)) (xs : List Nb) (U : List (List Nb)) : List Nb := U.foldl (nextM k A B) xs
theorem stM_snoc {k : Int} {A B : List (List Nb)} {xs : List Nb} {U : List (List Nb)} {u : List Nb} : stM k A B xs (U ++ [u]) = nextM k A B (stM k A B xs U) u := by unfold stM; rw [List.foldl_append]; rfl
def runM (k : Int) (A B C : List (List Nb)) (xs : List Nb) (U : List (List Nb)) : List (List Nb) := (List.range (U.length + 1)).map fun i => imgM k C (stM k A B xs (U.take i))
theorem runM_get {k : Int} {A B C : List (List Nb)} {xs : List Nb} {U : List (List Nb)} {i : Nat} (h : i ≤ U.length) : (runM k A B C xs U)[i]? = some (imgM k C (stM k A B xs (U.take i))) := by
  unfold runM
  rw [List.getElem?_map, List.getElem?_range (by omega)]; rfl
theorem runM_len {k : Int} {A B C : List (List Nb)} {xs : List Nb} {U : List (List Nb)} : (runM k A B C xs U).length = U.length + 1 := by unfold runM; simp
theorem next_rok {k : Int} (hk : KindOk k) {n h s m m' : Nat} (m7 : 7 ≤ m) (hm : m ≤ m') {A B C : List (List Nb)} {xs us : List Nb} (hM : MOk k n h s m A B C) (hx : ROk k n m' xs) (hu : ROk k h m' us) : ROk k n (7 + (n + h) * (m + m' + 1)) (nextM k A B xs us) := img_rok hk m7 (augM_tok hM.a hM.b) (hx.app hu)
/-! ### a row that a call made is appended -/
theorem Grow.pushR {H H' H2 : Hp} {M : List (List Nb)} {ras : List Addr} (G : Grow H H' M ras) {t p : Addr} {xs : List Nb} {zs zs' : List V} (tn : H t = none) (ht : H' t = some (.lst zs)) (tr : t ∉ ras) (g : Same H' H2) (hp : H' p = none) (hr : RowAt H2 xs p) :
    Grow H (upd H2 t (.lst zs')) (M ++ [xs]) (ras ++ [p]) ∧ t ∉ ras ++ [p] := by
  have ht2 : H2 t = some (.lst zs) := g _ _ ht
  have tp : t ≠ p := fun e => by rw [e, hp] at ht; cases ht
  have nm : t ∉ ras ++ [p] := fun h => by
    rcases List.mem_append.mp h with h | h
    · exact tr h
    · exact tp (List.mem_singleton.mp h)
  have R : Paired (RowAt H2) (M ++ [xs]) (ras ++ [p]) := pd_snoc (G.mono g).rows hr
  refine ⟨⟨same_upd (G.same.trans g) tn, ?_, fun r hr' => ?_, ?_⟩, nm⟩
  · refine pd_of (pd_len R) fun i x a h1 h2 => (pd_get R h1 h2).upd (fun e => nm ?_) ht2
    rw [← e]
    exact List.mem_of_getElem? h2
  · rcases List.mem_append.mp hr' with h | h
    · exact G.fr r h
    · rw [List.mem_singleton.mp h]; exact G.same.none hp
  · rw [List.nodup_append]
    refine ⟨G.nd, by simp, fun a ha b hb => ?_⟩
    rw [List.mem_singleton.mp hb]
    exact fun e => G.not_mem hp (by rw [← e]; exact ha)
/-- rows that are held against others one after the other, each changed then -/
structure AppsR (Hx H' : Hp) (M : List (List Nb)) (L : List Addr) (i : Nat) : Prop where
  same : Same Hx H'
  rows : ∀ j xs a, i ≤ j → M[j]? = some xs → L[j]? = some a → RowAt H' xs a
theorem AppsR.start {Hx H' : Hp} {M : List (List Nb)} {L : List Addr} (g : Same Hx H') (h : Paired (RowAt H') M L) : AppsR Hx H' M L 0 := ⟨g, fun j xs a _ h1 h2 => pd_get h h1 h2⟩
theorem AppsR.mono {Hx H' H2 : Hp} {M : List (List Nb)} {L : List Addr} {i : Nat} (A : AppsR Hx H' M L i) (g : Same H' H2) : AppsR Hx H2 M L i := ⟨A.same.trans g, fun j xs a h h1 h2 => (A.rows j xs a h h1 h2).mono g⟩
theorem AppsR.step {Hx H' : Hp} {M : List (List Nb)} {L : List Addr} {i : Nat} {a : Addr} {us vs : List V} (A : AppsR Hx H' M L i) (nd : L.Nodup) (fr : Hx a = none) (ha : L[i]? = some a) (hu : H' a = some (.lst us)) : AppsR Hx (upd H' a (.lst vs)) M L (i + 1) :=
  ⟨same_upd A.same fr, fun j xs b hj h1 h2 => (A.rows j xs b (by omega) h1 h2).upd (fun e => by
    subst e
    have : j = i := (List.getElem?_inj (List.getElem?_eq_some_iff.mp h2).1 nd).mp (h2.trans ha.symm)
    omega) hu⟩
end L2

namespace KL
open PySem PySem.Spec PyProof.Rows L2 Nm
set_option maxHeartbeats 4000000
def top (i : Nat) : Stmt := PySem.Challenge.pw_steermill_k11_turn_by_turn.main.body.getD i (.Pass ⟨0, 0, 0, 0⟩)
abbrev s_common_divisor : Stmt := top 1
theorem sc_common_divisor : FnScope ["one", "other", "left", "right", "rest"] ["one", "other"] (defScope s_common_divisor) := ⟨rfl, rfl, rfl, by decide +kernel, rfl, by decide +kernel, by decide +kernel⟩
abbrev s_fraction : Stmt := top 2
theorem sc_fraction : FnScope ["top", "bottom", "divisor"] ["top", "bottom"] (defScope s_fraction) := ⟨rfl, rfl, rfl, by decide +kernel, rfl, by decide +kernel, by decide +kernel⟩
abbrev s_one_over : Stmt := top 3
theorem sc_one_over : FnScope ["prime", "rest", "left", "right", "many_left", "many_right", "whole", "less", "many_less"] ["prime", "rest"] (defScope s_one_over) := ⟨rfl, rfl, rfl, by decide +kernel, rfl, by decide +kernel, by decide +kernel⟩
abbrev s_number : Stmt := top 4
theorem sc_number : FnScope ["kind", "whole"] ["kind", "whole"] (defScope s_number) := ⟨rfl, rfl, rfl, by decide +kernel, rfl, by decide +kernel, by decide +kernel⟩
abbrev s_over : Stmt := top 5
theorem sc_over : FnScope ["kind", "one", "other"] ["kind", "one", "other"] (defScope s_over) := ⟨rfl, rfl, rfl, by decide +kernel, rfl, by decide +kernel, by decide +kernel⟩
abbrev s_scaled : Stmt := top 7
theorem sc_scaled : FnScope ["kind", "row", "bottom", "part"] ["kind", "row"] (defScope s_scaled) := ⟨rfl, rfl, rfl, by decide +kernel, rfl, by decide +kernel, by decide +kernel⟩
abbrev s_quotient : Stmt := top 8
theorem sc_quotient : FnScope ["kind", "top", "bottom"] ["kind", "top", "bottom"] (defScope s_quotient) := ⟨rfl, rfl, rfl, by decide +kernel, rfl, by decide +kernel, by decide +kernel⟩
abbrev s_whole_sum : Stmt := top 9
theorem sc_whole_sum : FnScope ["one", "other"] ["one", "other"] (defScope s_whole_sum) := ⟨rfl, rfl, rfl, by decide +kernel, rfl, by decide +kernel, by decide +kernel⟩
abbrev s_sum_of_products : Stmt := top 10
theorem sc_sum_of_products : FnScope ["kind", "one", "other"] ["kind", "one", "other"] (defScope s_sum_of_products) := ⟨rfl, rfl, rfl, by decide +kernel, rfl, by decide +kernel, by decide +kernel⟩
abbrev s_abreast : Stmt := top 12
theorem sc_abreast : FnScope ["one", "other"] ["one", "other"] (defScope s_abreast) := ⟨rfl, rfl, rfl, by decide +kernel, rfl, by decide +kernel, by decide +kernel⟩
abbrev s_image : Stmt := top 13
theorem sc_image : FnScope ["kind", "table", "row", "right"] ["kind", "table", "row"] (defScope s_image) := ⟨rfl, rfl, rfl, by decide +kernel, rfl, by decide +kernel, by decide +kernel⟩
abbrev s_leading : Stmt := top 15
theorem sc_leading : FnScope ["machine"] ["machine"] (defScope s_leading) := ⟨rfl, rfl, rfl, by decide +kernel, rfl, by decide +kernel, by decide +kernel⟩
abbrev s_next_of : Stmt := top 16
theorem sc_next_of : FnScope ["kind", "machine", "standing", "inputs"] ["kind", "machine", "standing", "inputs"] (defScope s_next_of) := ⟨rfl, rfl, rfl, by decide +kernel, rfl, by decide +kernel, by decide +kernel⟩
abbrev s_seen_of : Stmt := top 17
theorem sc_seen_of : FnScope ["kind", "machine", "standing"] ["kind", "machine", "standing"] (defScope s_seen_of) := ⟨rfl, rfl, rfl, by decide +kernel, rfl, by decide +kernel, by decide +kernel⟩
abbrev s_run : Stmt := top 18
theorem sc_run : FnScope ["kind", "machine", "standing", "inputs", "here", "told", "put_in"] ["kind", "machine", "standing", "inputs"] (defScope s_run) := ⟨rfl, rfl, rfl, by decide +kernel, rfl, by decide +kernel, by decide +kernel⟩
abbrev s__law_mix : Stmt := top 20
theorem sc__law_mix : FnScope ["_law_cell", "_law_j", "_law_mixed"] ["_law_cell", "_law_j"] (defScope s__law_mix) := ⟨rfl, rfl, rfl, by decide +kernel, rfl, by decide +kernel, by decide +kernel⟩
abbrev s__law_divisor : Stmt := top 21
theorem sc__law_divisor : FnScope ["_law_one", "_law_other"] ["_law_one", "_law_other"] (defScope s__law_divisor) := ⟨rfl, rfl, rfl, by decide +kernel, rfl, by decide +kernel, by decide +kernel⟩
abbrev s__law_is_prime : Stmt := top 22
theorem sc__law_is_prime : FnScope ["_law_whole", "_law_by"] ["_law_whole"] (defScope s__law_is_prime) := ⟨rfl, rfl, rfl, by decide +kernel, rfl, by decide +kernel, by decide +kernel⟩
abbrev s__law_kind : Stmt := top 23
theorem sc__law_kind : FnScope ["_law_drawn", "_law_found"] ["_law_drawn"] (defScope s__law_kind) := ⟨rfl, rfl, rfl, by decide +kernel, rfl, by decide +kernel, by decide +kernel⟩
abbrev s__law_lowest : Stmt := top 24
theorem sc__law_lowest : FnScope ["_law_top", "_law_bottom", "_law_by"] ["_law_top", "_law_bottom"] (defScope s__law_lowest) := ⟨rfl, rfl, rfl, by decide +kernel, rfl, by decide +kernel, by decide +kernel⟩
abbrev s__law_number : Stmt := top 25
theorem sc__law_number : FnScope ["_law_kind_here", "_law_drawn"] ["_law_kind_here", "_law_drawn"] (defScope s__law_number) := ⟨rfl, rfl, rfl, by decide +kernel, rfl, by decide +kernel, by decide +kernel⟩
abbrev s__law_table : Stmt := top 26
theorem sc__law_table : FnScope ["_law_kind_here", "_law_cell", "_law_rows", "_law_columns", "_law_far", "_law_found", "_law_i"] ["_law_kind_here", "_law_cell", "_law_rows", "_law_columns", "_law_far"] (defScope s__law_table) := ⟨rfl, rfl, rfl, by decide +kernel, rfl, by decide +kernel, by decide +kernel⟩
abbrev s__law_machine : Stmt := top 27
theorem sc__law_machine : FnScope ["_law_kind_here", "_law_cell", "_law_n", "_law_hands", "_law_sights", "_law_a"] ["_law_kind_here", "_law_cell"] (defScope s__law_machine) := ⟨rfl, rfl, rfl, by decide +kernel, rfl, by decide +kernel, by decide +kernel⟩
abbrev s__law_sum : Stmt := top 28
theorem sc__law_sum : FnScope ["_law_kind_here", "_law_one", "_law_other", "_law_top", "_law_bottom", "_law_x", "_law_y"] ["_law_kind_here", "_law_one", "_law_other"] (defScope s__law_sum) := ⟨rfl, rfl, rfl, by decide +kernel, rfl, by decide +kernel, by decide +kernel⟩
abbrev s__law_next : Stmt := top 29
theorem sc__law_next : FnScope ["_law_kind_here", "_law_machine_here", "_law_standing", "_law_inputs"] ["_law_kind_here", "_law_machine_here", "_law_standing", "_law_inputs"] (defScope s__law_next) := ⟨rfl, rfl, rfl, by decide +kernel, rfl, by decide +kernel, by decide +kernel⟩
abbrev s__law_is : Stmt := top 30
theorem sc__law_is : FnScope ["_law_kind_here", "_law_found", "_law_due", "_law_x"] ["_law_kind_here", "_law_found", "_law_due"] (defScope s__law_is) := ⟨rfl, rfl, rfl, by decide +kernel, rfl, by decide +kernel, by decide +kernel⟩
abbrev s__law_right : Stmt := top 31
theorem sc__law_right : FnScope ["_law_kind_here", "_law_cell", "_law_machine_here", "_law_standing", "_law_inputs", "_law_kept", "_law_here", "_law_due", "_law_some", "_law_there", "_law_seen", "_law_told", "_law_found", "_law_right_here"] ["_law_kind_here", "_law_cell"] (defScope s__law_right) := ⟨rfl, rfl, rfl, by decide +kernel, rfl, by decide +kernel, by decide +kernel⟩
abbrev s_law : Stmt := top 32
theorem sc_law : FnScope ["_law_script", "_law_cell"] ["_law_script"] (defScope s_law) := ⟨rfl, rfl, rfl, by decide +kernel, rfl, by decide +kernel, by decide +kernel⟩
theorem hide {G : Prop} (h : ∀ G' : Prop, (G → G') → G') : G := h G id
theorem kit_ii (K : PySem.W.Frag) : PySem.W.kitOne K (.type "int") (.type "int") = some true := by unfold PySem.W.kitOne; rw [if_pos (by decide)]
theorem kit_ib (K : PySem.W.Frag) : PySem.W.kitOne K (.type "int") (.type "bool") = some false := by
  unfold PySem.W.kitOne
  rw [if_neg (by decide)]
  show (if PySem.W.kitMeta "bool" = true then PySem.W.subIn K (.type "int") (.type "bool") else none) = some false
  rw [if_pos (by decide +kernel)]
  show (PySem.fastBuiltinMro "int").map (·.contains (Value.type "bool")) = some false
  decide +kernel
theorem kit_tt (K : PySem.W.Frag) : PySem.W.kitOne K (.type "tuple") (.type "tuple") = some true := by unfold PySem.W.kitOne; rw [if_pos (by decide)]
section
variable {P : Program} {w : World} {K : PySem.W.Frag} {mg : Str → Option Value} {base : Heap}
/-! _law_is_prime -/
def sp_is_prime : Sp := fun vs H Q _ => ∃ n : Int, vs = [.int n] ∧ 0 ≤ n ∧ n < 99 ∧ Q (.bl (primeB n.toNat)) H
theorem mulok_small {a b : Int} (h0 : 0 ≤ a) (h1 : a ≤ 1000) : IntMulOk a b := IntMulOk.of_left (intBits_le_64 (by omega) (by omega))
theorem kn_is_prime (D : Df K mg "_law_is_prime" ["_law_whole"] s__law_is_prime) : Kn P w K mg base "_law_is_prime" 1 ["_law_whole"] sp_is_prime := by
  refine D.kn sc__law_is_prime (fun vs H Q E h => ?_) (fun f cdv A outer s H vs Q E hr h => ?_)
  · obtain ⟨i, rfl, _⟩ := h; rfl
  obtain ⟨n, rfl, h0, h9, q⟩ := h
  refine ⟨_, (pss_cons (ps_set (i := 1) sc__law_is_prime.nd rfl (by first | exact Or.inl rfl | exact Or.inr rfl) pe_int) (pss_cons (ps_while PassesOwn.never (pt_cmpR op_le (pe_op op_mulB (pv 1) (pv 1)) (pv 0) (nomark _)) (pss_cons (ps_if (pt_cmpR op_eq (pe_op op_modN (pv 0) (pv 1)) pe_int (nomark _)) (pss_one (ps_ret pe_bl)) pss_nil) (pss_one (ps_set (i := 1) sc__law_is_prime.nd rfl (by first | exact Or.inl rfl | exact Or.inr rfl) (pe_op op_add (pv 1) pe_int))))) (pss_one (ps_ret (pe_cmpR op_gt (pv 0) pe_int (nomark _)))))), ?_⟩
  refine ⟨fun m σ H' => ∃ b, σ = [some (.int n), some (.int b)] ∧ H' = H ∧ PrInv n b ∧ m = (11 - b).toNat, ⟨_, 2, rfl, rfl, pr_start n, rfl⟩, ?_⟩
  rintro m σ H' ⟨b, rfl, rfl, inv, rfl⟩
  have b2 := inv.lo
  have b10 := inv.hi
  refine ⟨_, rfl, _, rfl, _, _, rfl, rfl, mulok_small (by omega) (by omega), _, rfl, _, _, rfl, rfl, _, rfl, ?_⟩
  refine ite2 (fun c => ?_) (fun c => ?_)
  · have c' : b * b ≤ n := of_decide_eq_true c
    refine ⟨_, fun _ _ h => h, ?_⟩
    refine ⟨_, rfl, _, rfl, _, _, rfl, rfl, (by omega : b ≠ 0), rfl, _, rfl, ?_⟩
    have em : n.fmod b = n % b := Int.fmod_eq_emod_of_nonneg n (by omega)
    refine ite2 (fun d => ?_) (fun d => ?_)
    · have d' : V.int (n.fmod b) = V.int 0 := of_decide_eq_true d
      have d2 : n % b = 0 := by rw [← em]; exact V.int.inj d'
      have e := pr_stop inv h0 h9 c' d2
      rw [e] at q
      exact q
    · have d' : ¬ V.int (n.fmod b) = V.int 0 := of_decide_eq_false (Bool.eq_false_iff.mpr d)
      have d2 : n % b ≠ 0 := fun z => d' (by rw [em, z])
      have t := pr_turn inv h0 h9 c' d2
      exact ⟨_, rfl, _, _, rfl, rfl, _, by have := t.hi; omega, b + 1, rfl, rfl, t, rfl⟩
  · have c' : ¬ b * b ≤ n := of_decide_eq_false (Bool.eq_false_iff.mpr c)
    refine ⟨_, rfl, _, _, rfl, rfl, ?_⟩
    show Q (.bl (decide (1 < n))) H'
    rw [pr_end inv h0 h9 (by omega)]
    exact q
/-! _law_kind -/
def sp_kind : Sp := fun vs H Q _ => ∃ c : Int, vs = [.int c] ∧ ∀ k, KindOk k → Q (.int k) H
theorem kn_kind (hP : P.given.tree = none) (hS : base.NoSeer) (D : Df K mg "_law_kind" ["_law_drawn"] s__law_kind) (d__law_is_prime : Kn P w K mg base "_law_is_prime" 1 ["_law_whole"] sp_is_prime) : Kn P w K mg base "_law_kind" 41 ["_law_drawn"] sp_kind := by
  refine D.kn sc__law_kind (fun vs H Q E h => ?_) (fun f cdv A outer s H vs Q E hr h => ?_)
  · obtain ⟨i, rfl, _⟩ := h; rfl
  obtain ⟨c, rfl, q⟩ := h
  refine ⟨_, (pss_cons (ps_set (i := 1) sc__law_kind.nd rfl (by first | exact Or.inl rfl | exact Or.inr rfl) (pe_op op_modN (pe_op (op_fdivU hr (by decide) hP hS ⟨_, _, rfl, rfl, rfl, rfl, rfl⟩) (pv 0) pe_int) pe_int)) (pss_cons (ps_while PassesOwn.never (PW.pt (pw_and (pt_cmpR op_gt (pv 1) pe_int (nomark _)) (pw_and1 (pt_not (pt_val (pe_kn d__law_is_prime (hr.mono (by decide)) rfl (pa_cons (pv 1) pa_nil))))))) (pss_one (ps_set (i := 1) sc__law_kind.nd rfl (by first | exact Or.inl rfl | exact Or.inr rfl) (pe_op op_sub (pv 1) pe_int)))) (pss_one (ps_ret (pe_op op_mulB (pv 1) (pe_op op_modN (pv 0) pe_int)))))), ?_⟩
  refine ⟨_, rfl, _, _, rfl, rfl, (by show (2 : Int) ≠ 0; decide), _, _, rfl, rfl, (by show (99 : Int) ≠ 0; decide), ?_⟩
  have f0 := Int.fmod_nonneg_of_pos (c.fdiv 2) (show (0 : Int) < 99 by decide)
  have f9 := Int.fmod_lt_of_pos (c.fdiv 2) (show (0 : Int) < 99 by decide)
  refine ⟨fun m σ H' => ∃ g, σ = [some (.int c), some (.int g)] ∧ H' = H ∧ 0 ≤ g ∧ g < 99 ∧ m = g.toNat, ⟨_, _, rfl, rfl, f0, f9, rfl⟩, ?_⟩
  rintro m σ H' ⟨g, rfl, rfl, g0, g9, rfl⟩
  have ends : ∀ j : Int, (g = 0 ∨ primeB g.toNat = true) → Q (.int (g * c.fmod 2)) H' := fun _ hg => by
    have m0 := Int.fmod_nonneg_of_pos c (show (0 : Int) < 2 by decide)
    have m1 := Int.fmod_lt_of_pos c (show (0 : Int) < 2 by decide)
    rcases hg with hg | hg
    · rw [hg, Int.zero_mul]; exact q 0 (.inl rfl)
    · rcases (show c.fmod 2 = 0 ∨ c.fmod 2 = 1 by omega) with e | e
      · rw [e, Int.mul_zero]; exact q 0 (.inl rfl)
      · rw [e, Int.mul_one]
        refine q g (.inr ⟨?_, g9, hg⟩)
        rcases (show g = 0 ∨ g = 1 ∨ 1 < g by omega) with e | e | e
        · rw [e] at hg; exact absurd hg (by decide)
        · rw [e] at hg; exact absurd hg (by decide)
        · exact e
  refine ⟨_, rfl, _, _, rfl, rfl, _, rfl, ?_⟩
  refine ite2 (fun cc => ?_) (fun cc => ?_)
  · have c' : 0 < g := of_decide_eq_true cc
    refine ⟨_, rfl, g, rfl, g0, g9, _, rfl, ?_⟩
    cases hp : primeB g.toNat with
    | false =>
      refine iteT ⟨_, fun _ _ h => h, ?_⟩
      exact ⟨_, rfl, _, _, rfl, rfl, _, by omega, g - 1, rfl, rfl, by omega, by omega, rfl⟩
    | true =>
      refine iteF ?_
      exact ⟨_, rfl, _, rfl, _, _, rfl, rfl, (by show (2 : Int) ≠ 0; decide), _, _, rfl, rfl, mulok_small g0 (by omega), ends 0 (.inr hp)⟩
  · have c' : ¬ 0 < g := of_decide_eq_false (Bool.eq_false_iff.mpr cc)
    refine iteF ?_
    exact ⟨_, rfl, _, rfl, _, _, rfl, rfl, (by show (2 : Int) ≠ 0; decide), _, _, rfl, rfl, mulok_small g0 (by omega), ends 0 (.inl (by omega))⟩
/-! common_divisor, fraction, one_over, number, over -/
/-! common_divisor -/
def sp_cd : Sp := fun vs H Q _ => ∃ (a b : Int), vs = [.int a, .int b] ∧ Q (.int ((Int.gcd a b : Nat) : Int)) H
theorem abs_if (i : Int) : (if i < 0 then -i else i) = (i.natAbs : Int) := by split <;> omega
theorem kn_cd (D : Df K mg "common_divisor" ["one", "other"] s_common_divisor) (m_abs : mg "abs" = none) : Kn P w K mg base "common_divisor" 1 ["one", "other"] sp_cd := by
  refine D.kn sc_common_divisor (fun vs H Q E h => ?_) (fun f cdv A outer s H vs Q E hr h => ?_)
  · obtain ⟨a, b, rfl, _⟩ := h; rfl
  obtain ⟨a, b, rfl, q⟩ := h
  refine ⟨_, (pss_cons (ps_set (i := 2) sc_common_divisor.nd rfl (by first | exact Or.inl rfl | exact Or.inr rfl) (pe_callB call_abs rfl m_abs bb_abs (pa_cons (pv 0) pa_nil))) (pss_cons (ps_set (i := 3) sc_common_divisor.nd rfl (by first | exact Or.inl rfl | exact Or.inr rfl) (pe_callB call_abs rfl m_abs bb_abs (pa_cons (pv 1) pa_nil))) (pss_cons (ps_while PassesOwn.never (pt_cmpR op_ne (pv 3) pe_int (nomark _)) (pss_cons (ps_set (i := 4) sc_common_divisor.nd rfl (by first | exact Or.inl rfl | exact Or.inr rfl) (pe_op op_modN (pv 2) (pv 3))) (pss_cons (ps_set (i := 2) sc_common_divisor.nd rfl (by first | exact Or.inl rfl | exact Or.inr rfl) (pv 3)) (pss_one (ps_set (i := 3) sc_common_divisor.nd rfl (by first | exact Or.inl rfl | exact Or.inr rfl) (pv 4)))))) (pss_one (ps_ret (pv 2)))))), ?_⟩
  refine ⟨_, rfl, a, rfl, _, rfl, b, rfl, ?_⟩
  rw [abs_if, abs_if]
  refine ⟨fun m σ H' => ∃ l r o, σ = [some (.int a), some (.int b), some (.int l), some (.int r), o] ∧ H' = H ∧ 0 ≤ l ∧ 0 ≤ r ∧ Int.gcd l r = Int.gcd a b ∧ m = r.toNat, ⟨_, _, _, none, rfl, rfl, Int.natCast_nonneg _, Int.natCast_nonneg _, by simp [Int.gcd_eq_natAbs_gcd_natAbs], rfl⟩, ?_⟩
  rintro m σ H' ⟨l, r, o, rfl, rfl, l0, r0, g, rfl⟩
  refine ⟨_, rfl, rfl, _, rfl, ?_⟩
  refine ite2 (fun c => ?_) (fun c => ?_)
  · have c' : r ≠ 0 := fun z => by rw [z] at c; exact absurd c (by decide)
    have m0 := Int.fmod_nonneg_of_pos l (show 0 < r by omega)
    have m1 := Int.fmod_lt_of_pos l (show 0 < r by omega)
    refine ⟨_, fun _ _ h => h, ?_⟩
    exact ⟨_, rfl, _, rfl, _, _, rfl, rfl, c', _, rfl, _, rfl, _, by omega, r, l.fmod r, _, rfl, rfl, r0, m0, (gcd_fmod l r).trans g, rfl⟩
  · have c' : r = 0 := by
      rcases Int.lt_or_le 0 r with h | h
      · exact absurd (by have h' : ¬ V.int r = V.int 0 := fun z => by have := V.int.inj z; omega
                         rw [decide_eq_false h']; rfl) c
      · omega
    subst c'
    refine ⟨_, rfl, ?_⟩
    have e : l = ((Int.gcd a b : Nat) : Int) := by rw [← g, Int.gcd_zero]; omega
    show Q (.int l) H'
    rw [e]; exact q
def sp_fraction : Sp := fun vs H Q _ => ∃ (t b : Int), vs = [.int t, .int b] ∧ b ≠ 0 ∧ ∀ v H', Same H H' → RN H' (.q (Rat.divInt t b)) v → Q v H'
theorem kn_fraction (hP : P.given.tree = none) (hS : base.NoSeer) (D : Df K mg "fraction" ["top", "bottom"] s_fraction) (d_common_divisor : Kn P w K mg base "common_divisor" 1 ["one", "other"] sp_cd) : Kn P w K mg base "fraction" 41 ["top", "bottom"] sp_fraction := by
  refine D.kn sc_fraction (fun vs H Q E h => ?_) (fun f cdv A outer s H vs Q E hr h => ?_)
  · obtain ⟨a, b, rfl, _⟩ := h; rfl
  obtain ⟨t, b, rfl, hb, q⟩ := h
  refine ⟨_, (pss_cons (ps_set (i := 2) sc_fraction.nd rfl (by first | exact Or.inl rfl | exact Or.inr rfl) (pe_kn d_common_divisor (hr.mono (by decide)) rfl (pa_cons (pv 0) (pa_cons (pv 1) pa_nil)))) (pss_cons (ps_if (pt_cmpR op_lt (pv 1) pe_int (nomark _)) (pss_one (ps_set (i := 2) sc_fraction.nd rfl (by first | exact Or.inl rfl | exact Or.inr rfl) (pe_un un_neg (pv 2)))) pss_nil) (pss_one (ps_ret (pe_tup (pa_cons (pe_op (op_fdivU hr (by decide) hP hS ⟨_, _, rfl, rfl, rfl, rfl, rfl⟩) (pv 0) (pv 2)) (pa_cons (pe_op (op_fdivU hr (by decide) hP hS ⟨_, _, rfl, rfl, rfl, rfl, rfl⟩) (pv 1) (pv 2)) pa_nil))))))), ?_⟩
  obtain ⟨e1, e2⟩ := frac_num (t := t) hb
  have cd : sg t b ≠ 0 := sg_ne hb
  have fin : ∀ p, H p = none → Q (.ref p) (upd H p (.tup [.int (t.fdiv (sg t b)), .int (b.fdiv (sg t b))])) := fun p hp => by
    rw [e1, e2]
    exact q _ _ (same_new hp _) (RN.of_q upd_same)
  refine ⟨_, rfl, _, rfl, t, b, rfl, ?_⟩
  refine ⟨_, rfl, _, _, rfl, rfl, _, rfl, ?_⟩
  refine ite2 (fun c => ?_) (fun c => ?_)
  · have c' : b < 0 := of_decide_eq_true c
    have e : sg t b = -((Int.gcd t b : Nat) : Int) := by unfold sg; rw [if_pos c']
    rw [e] at cd fin
    exact ⟨_, rfl, _, rfl, _, rfl, _, rfl, _, _, rfl, rfl, cd, _, rfl, _, rfl, _, _, rfl, rfl, cd, (by show 2 ≤ sizeLine; decide), fin⟩
  · have c' : ¬ b < 0 := of_decide_eq_false (Bool.eq_false_iff.mpr c)
    have e : sg t b = ((Int.gcd t b : Nat) : Int) := by unfold sg; rw [if_neg c']
    rw [e] at cd fin
    exact ⟨_, rfl, _, rfl, _, _, rfl, rfl, cd, _, rfl, _, rfl, _, _, rfl, rfl, cd, (by show 2 ≤ sizeLine; decide), fin⟩
def sp_one_over : Sp := fun vs H Q _ => ∃ (p r : Int), vs = [.int p, .int r] ∧ Pr p ∧ 0 < r ∧ r < p ∧ ∀ x, 0 ≤ x → x < p → p ∣ x * r - 1 → Q (.int x) H
theorem kn_one_over (hP : P.given.tree = none) (hS : base.NoSeer) (D : Df K mg "one_over" ["prime", "rest"] s_one_over) : Kn P w K mg base "one_over" 41 ["prime", "rest"] sp_one_over := by
  refine D.kn sc_one_over (fun vs H Q E h => ?_) (fun f cdv A outer s H vs Q E hr h => ?_)
  · obtain ⟨a, b, rfl, _⟩ := h; rfl
  obtain ⟨p, r, rfl, hp, r0, rp, q⟩ := h
  refine ⟨_, (pss_cons (ps_set (i := 2) sc_one_over.nd rfl (by first | exact Or.inl rfl | exact Or.inr rfl) (pv 0)) (pss_cons (ps_set (i := 3) sc_one_over.nd rfl (by first | exact Or.inl rfl | exact Or.inr rfl) (pv 1)) (pss_cons (ps_set (i := 4) sc_one_over.nd rfl (by first | exact Or.inl rfl | exact Or.inr rfl) pe_int) (pss_cons (ps_set (i := 5) sc_one_over.nd rfl (by first | exact Or.inl rfl | exact Or.inr rfl) pe_int) (pss_cons (ps_while PassesOwn.never (pt_cmpR op_ne (pv 3) pe_int (nomark _)) (pss_cons (ps_set (i := 6) sc_one_over.nd rfl (by first | exact Or.inl rfl | exact Or.inr rfl) (pe_op (op_fdivU hr (by decide) hP hS ⟨_, _, rfl, rfl, rfl, rfl, rfl⟩) (pv 2) (pv 3))) (pss_cons (ps_set (i := 7) sc_one_over.nd rfl (by first | exact Or.inl rfl | exact Or.inr rfl) (pe_op op_sub (pv 2) (pe_op op_mulB (pv 6) (pv 3)))) (pss_cons (ps_set (i := 8) sc_one_over.nd rfl (by first | exact Or.inl rfl | exact Or.inr rfl) (pe_op op_sub (pv 4) (pe_op op_mulB (pv 6) (pv 5)))) (pss_cons (ps_set (i := 2) sc_one_over.nd rfl (by first | exact Or.inl rfl | exact Or.inr rfl) (pv 3)) (pss_cons (ps_set (i := 4) sc_one_over.nd rfl (by first | exact Or.inl rfl | exact Or.inr rfl) (pv 5)) (pss_cons (ps_set (i := 3) sc_one_over.nd rfl (by first | exact Or.inl rfl | exact Or.inr rfl) (pv 7)) (pss_one (ps_set (i := 5) sc_one_over.nd rfl (by first | exact Or.inl rfl | exact Or.inr rfl) (pv 8)))))))))) (pss_one (ps_ret (pe_op op_modN (pv 4) (pv 0))))))))), ?_⟩
  have p0 : 0 < p := by have := hp.lo; omega
  refine ⟨_, rfl, _, rfl, ?_⟩
  refine ⟨fun m σ H' => ∃ l g ml mg o1 o2 o3, σ = [some (.int p), some (.int r), some (.int l), some (.int g), some (.int ml), some (.int mg), o1, o2, o3] ∧ H' = H ∧ OvInv p r l g ml mg ∧ m = g.toNat, ⟨_, _, _, _, _, none, none, none, rfl, rfl, ov_start hp r0 rp, rfl⟩, ?_⟩
  rintro m σ H' ⟨l, g, ml, mg, o1, o2, o3, rfl, rfl, inv, rfl⟩
  have l0 := inv.l0
  have l1 := inv.l1
  have g0 := inv.g0
  have g1 := inv.g1
  refine ⟨_, rfl, rfl, _, rfl, ?_⟩
  refine ite2 (fun c => ?_) (fun c => ?_)
  · have c' : g ≠ 0 := fun z => by rw [z] at c; exact absurd c (by decide)
    have ed : l.fdiv g = l / g := Int.fdiv_eq_ediv_of_nonneg l g0
    have d0 : 0 ≤ l.fdiv g := by rw [ed]; exact Int.ediv_nonneg l0 g0
    have d1 : l.fdiv g ≤ l := by rw [ed]; exact Int.ediv_le_self g l0
    have tn := ov_turn inv c'
    have tm := ov_meas (l := l) g0 c'
    rw [← ed] at tn tm
    refine ⟨_, fun _ _ h => h, ?_⟩
    refine ⟨_, rfl, _, rfl, _, _, rfl, rfl, c', ?_⟩
    refine ⟨_, rfl, _, rfl, _, rfl, _, _, rfl, rfl, mulok_small d0 (by omega), _, _, rfl, rfl, _, rfl, _, rfl, _, rfl, _, _, rfl, rfl, mulok_small d0 (by omega), _, _, rfl, rfl, _, rfl, _, rfl, _, rfl, _, rfl, _, tm, g, _, mg, _, _, _, _, rfl, rfl, tn, rfl⟩
  · have c' : g = 0 := by
      rcases Int.lt_or_le 0 g with h | h
      · exact absurd (by have h' : ¬ V.int g = V.int 0 := fun z => by have := V.int.inj z; omega
                         rw [decide_eq_false h']; rfl) c
      · omega
    subst c'
    refine ⟨_, rfl, _, rfl, _, _, rfl, rfl, (show p ≠ 0 by omega), ?_⟩
    have em : ml.fmod p = ml % p := Int.fmod_eq_emod_of_nonneg ml (by omega)
    show Q (.int (ml.fmod p)) H'
    rw [em]
    exact q _ (Int.emod_nonneg _ (by omega)) (Int.emod_lt_of_pos _ p0) (ov_end inv p0)
/-! number -/
def sp_number : Sp := fun vs H Q _ => ∃ (k w : Int), vs = [.int k, .int w] ∧ ∀ v H', Same H H' → RN H' (nnum k w) v → Q v H'
theorem kn_number (D : Df K mg "number" ["kind", "whole"] s_number) : Kn P w K mg base "number" 1 ["kind", "whole"] sp_number := by
  refine D.kn sc_number (fun vs H Q E h => ?_) (fun f cdv A outer s H vs Q E hr h => ?_)
  · obtain ⟨k, w, rfl, _⟩ := h; rfl
  obtain ⟨k, w, rfl, q⟩ := h
  refine ⟨_, (pss_cons (ps_if (pt_cmpR op_eq (pv 0) pe_int (nomark _)) (pss_one (ps_ret (pe_tup (pa_cons (pv 1) (pa_cons pe_int pa_nil))))) pss_nil) (pss_one (ps_ret (pe_op op_modN (pv 1) (pv 0))))), ?_⟩
  refine ⟨_, rfl, rfl, _, rfl, ?_⟩
  refine ite2 (fun c => ?_) (fun c => ?_)
  · have e : k = 0 := V.int.inj (of_decide_eq_true c)
    subst e
    refine ⟨_, rfl, (by show 2 ≤ sizeLine; decide), fun p hp => ?_⟩
    refine q _ _ (same_new hp _) ?_
    show RN _ (.q (w : Rat)) _
    exact RN.of_q upd_same
  · have c' : ¬ V.int k = V.int 0 := of_decide_eq_false (Bool.eq_false_iff.mpr c)
    have e : k ≠ 0 := fun z => c' (by rw [z])
    refine ⟨_, rfl, _, rfl, _, _, rfl, rfl, e, ?_⟩
    refine q _ _ (Same.refl H) ?_
    unfold nnum
    rw [if_neg e]
    exact RN.of_z
/-- two numbers of a kind -/
structure Two (H : Hp) (k : Int) (x y : Nb) (a b : V) : Prop where
  kd : KindOk k
  xo : x.ok k
  yo : y.ok k
  xs : nsm 60000000 x
  ys : nsm 60000000 y
  xr : RN H x a
  yr : RN H y b
def sp_bin (f : Int → Nb → Nb → Nb) : Sp := fun vs H Q _ => ∃ (k : Int) (x y : Nb) (a b : V), vs = [.int k, a, b] ∧ Two H k x y a b ∧ ∀ v H', Same H H' → RN H' (f k x y) v → Q v H'
/-- both are fractions, or both are rests -/
theorem two_cases {H : Hp} {k : Int} {x y : Nb} {a b : V} (T : Two H k x y a b) :
    (k = 0 ∧ ∃ r s pa pb, x = .q r ∧ y = .q s ∧ a = .ref pa ∧ b = .ref pb ∧ H pa = some (.tup [.int r.num, .int (r.den : Int)]) ∧ H pb = some (.tup [.int s.num, .int (s.den : Int)]) ∧ Sm 60000000 r.num ∧ Sm 60000000 (r.den : Int) ∧ Sm 60000000 s.num ∧ Sm 60000000 (s.den : Int)) ∨
    (k ≠ 0 ∧ Pr k ∧ ∃ i j, x = .z i ∧ y = .z j ∧ a = .int i ∧ b = .int j ∧ 0 ≤ i ∧ i < k ∧ 0 ≤ j ∧ j < k) := by
  obtain ⟨kd, xo, yo, xs, ys, xr, yr⟩ := T
  cases x with
  | q r =>
    have k0 : k = 0 := xo
    cases y with
    | q s =>
      obtain ⟨pa, ea, ha⟩ := xr.q
      obtain ⟨pb, eb, hb⟩ := yr.q
      exact .inl ⟨k0, r, s, pa, pb, rfl, rfl, ea, eb, ha, hb, xs.1, xs.2, ys.1, ys.2⟩
    | z j => exact absurd k0 yo.1
  | z i =>
    cases y with
    | q s => exact absurd (show k = 0 from yo) xo.1
    | z j =>
      refine .inr ⟨xo.1, ?_, i, j, rfl, rfl, xr.z, yr.z, xo.2.1, xo.2.2, yo.2.1, yo.2.2⟩
      rcases kd with h | h
      · exact absurd h xo.1
      · exact h
theorem mulok_sm {m n : Nat} {a b : Int} (ha : Sm m a) (hb : Sm n b) (h : m + n ≤ 134217728 := by decide) : IntMulOk a b := ha.mulOk hb h
theorem den_mul_ne (r s : Rat) : (r.den : Int) * (s.den : Int) ≠ 0 := Int.mul_ne_zero (den_ne r) (den_ne s)
def sp_over : Sp := fun vs H Q _ => ∃ (k : Int) (x y : Nb) (a b : V), vs = [.int k, a, b] ∧ Two H k x y a b ∧ y ≠ nnum k 0 ∧ ∀ v H', Same H H' → RN H' (ndiv k x y) v → Q v H'
theorem kn_over (D : Df K mg "over" ["kind", "one", "other"] s_over) (d_fraction : Kn P w K mg base "fraction" 41 ["top", "bottom"] sp_fraction) (d_number : Kn P w K mg base "number" 1 ["kind", "whole"] sp_number) (d_one_over : Kn P w K mg base "one_over" 41 ["prime", "rest"] sp_one_over) : Kn P w K mg base "over" 42 ["kind", "one", "other"] sp_over := by
  refine D.kn sc_over (fun vs H Q E h => ?_) (fun f cdv A outer s H vs Q E hr h => ?_)
  · obtain ⟨k, x, y, a, b, rfl, _⟩ := h; rfl
  obtain ⟨k, x, y, a, b, rfl, T, ne, q⟩ := h
  refine ⟨_, (pss_cons (ps_if (pt_cmpR (op_eqD hr) (pv 2) (pe_kn d_number (hr.mono (by decide)) rfl (pa_cons (pv 0) (pa_cons pe_int pa_nil))) (nomark _)) (pss_one ps_never) pss_nil) (pss_cons (ps_if (pt_cmpR op_eq (pv 0) pe_int (nomark _)) (pss_one (ps_ret (pe_kn d_fraction (hr.mono (by decide)) rfl (pa_cons (pe_op op_mulB (pe_ix (ix_tupK (K := K) rfl) (pv 1) pe_int (fun _ _ => rfl)) (pe_ix (ix_tupK (K := K) rfl) (pv 2) pe_int (fun _ _ => rfl))) (pa_cons (pe_op op_mulB (pe_ix (ix_tupK (K := K) rfl) (pv 1) pe_int (fun _ _ => rfl)) (pe_ix (ix_tupK (K := K) rfl) (pv 2) pe_int (fun _ _ => rfl))) pa_nil))))) pss_nil) (pss_one (ps_ret (pe_op op_modN (pe_op op_mulB (pv 1) (pe_kn d_one_over (hr.mono (by decide)) rfl (pa_cons (pv 0) (pa_cons (pv 2) pa_nil)))) (pv 0)))))), ?_⟩
  refine ⟨_, rfl, _, rfl, k, 0, rfl, fun v0 H0 g0 r0 => ?_⟩
  refine ⟨toD y, toD (nnum k 0), T.yr.mono g0, r0, toD_lay _, toD_lay _, Nat.le_trans (Nat.min_le_left _ _) (Nat.le_trans (toD_depth y) (by decide)), _, rfl, ?_⟩
  show if PyData.eqv (toD y) (toD (nnum k 0)) = true then _ else _
  rw [toD_eqv, decide_eq_false ne]
  refine iteF ?_
  rcases two_cases T with ⟨rfl, r, s, pa, pb, rfl, rfl, rfl, rfl, ha, hb, rn, rd, sn, sd⟩ | ⟨k0, hp, i, j, rfl, rfl, rfl, rfl, i0, ik, j0, jk⟩
  · have ha' := g0 _ _ ha
    have hb' := g0 _ _ hb
    have s0 : s ≠ 0 := fun z => ne (by rw [z]; rfl)
    refine ⟨_, rfl, rfl, _, rfl, iteT ?_⟩
    refine ⟨_, rfl, pa, _, _, _, rfl, rfl, SqT.of ha', rfl, _, rfl, pb, _, _, _, rfl, rfl, SqT.of hb', rfl, _, _, rfl, rfl, mulok_sm rn sd, _, rfl, pa, _, _, _, rfl, rfl, SqT.of ha', rfl, _, rfl, pb, _, _, _, rfl, rfl, SqT.of hb', rfl, _, _, rfl, rfl, mulok_sm rd sn, _, _, rfl, Int.mul_ne_zero (den_ne r) (num_ne s0), fun v H' g h => ?_⟩
    rw [rat_div] at h
    exact q v H' (g0.trans g) h
  · have j1 : j ≠ 0 := fun z => ne (by unfold nnum; rw [if_neg k0, z, Int.zero_fmod])
    refine ⟨_, rfl, rfl, _, rfl, ?_⟩
    rw [decide_eq_false (show ¬ V.int k = V.int 0 from fun z => k0 (V.int.inj z))]
    refine iteF ?_
    refine ⟨_, rfl, _, rfl, _, rfl, k, j, rfl, hp, by omega, jk, fun x x0 xk hx => ?_⟩
    refine ⟨_, _, rfl, rfl, mulok_small i0 (by have := hp.hi; omega), _, rfl, _, _, rfl, rfl, k0, ?_⟩
    refine q _ _ g0 ?_
    show RN _ (.z ((i * zinv k j).fmod k)) _
    rw [zinv_of x0 xk hx]
    exact RN.of_z
/-! _law_divisor -/
theorem kn_div (D : Df K mg "_law_divisor" ["_law_one", "_law_other"] s__law_divisor) (m_abs : mg "abs" = none) : Kn P w K mg base "_law_divisor" 1 ["_law_one", "_law_other"] sp_cd := by
  refine D.kn sc__law_divisor (fun vs H Q E h => ?_) (fun f cdv A outer s H vs Q E hr h => ?_)
  · obtain ⟨a, b, rfl, _⟩ := h; rfl
  obtain ⟨a, b, rfl, q⟩ := h
  refine ⟨_, (pss_cons (ps_while PassesOwn.never (pt_cmpR op_ne (pv 1) pe_int (nomark _)) (pss_one (ps_par (i := 0) (j := 1) rfl sc__law_divisor.nd rfl rfl (by decide) rfl rfl (pa_cons (pv 1) (pa_cons (pe_op op_modN (pv 0) (pv 1)) pa_nil)) rfl))) (pss_one (ps_ret (pe_callB call_abs rfl m_abs bb_abs (pa_cons (pv 0) pa_nil))))), ?_⟩
  refine ⟨fun m σ H' => ∃ l r, σ = [some (.int l), some (.int r)] ∧ H' = H ∧ Int.gcd l r = Int.gcd a b ∧ m = r.natAbs, ⟨_, _, _, rfl, rfl, rfl, rfl⟩, ?_⟩
  rintro m σ H' ⟨l, r, rfl, rfl, g, rfl⟩
  refine ⟨_, rfl, rfl, _, rfl, ?_⟩
  refine ite2 (fun c => ?_) (fun c => ?_)
  · have c' : r ≠ 0 := fun z => by rw [z] at c; exact absurd c (by decide)
    refine ⟨_, fun _ _ h => h, ?_⟩
    exact ⟨_, rfl, _, rfl, _, rfl, _, _, rfl, rfl, c', _, _, rfl, _, fmod_small l c', r, l.fmod r, rfl, rfl, (gcd_fmod l r).trans g, rfl⟩
  · have c' : r = 0 := by
      by_cases h : r = 0
      · exact h
      · exact absurd (by have h' : ¬ V.int r = V.int 0 := fun z => h (V.int.inj z)
                         rw [decide_eq_false h']; rfl) c
    subst c'
    refine ⟨_, rfl, l, rfl, ?_⟩
    have e : (if l < 0 then -l else l) = ((Int.gcd a b : Nat) : Int) := by rw [abs_if, ← g, Int.gcd_zero]
    show Q (.int (if l < 0 then -l else l)) H'
    rw [e]; exact q
def szM (m : Nat) (M : List (List Nb)) : Prop := ∀ r ∈ M, ∀ x ∈ r, nsm m x
theorem szM_transp {k : Int} {m n : Nat} {M : List (List Nb)} (ok : La.OkM k n M) (h : szM m M) : szM m (transp n M) := fun r hr x hx => by
  unfold transp at hr
  obtain ⟨j, hj, rfl⟩ := List.mem_map.mp hr
  rw [List.mem_range] at hj
  obtain ⟨row, hrow, rfl⟩ := List.mem_map.mp hx
  have hj' : j < row.length := by have := (ok row hrow).1; omega
  rw [List.getD_eq_getElem?_getD, List.getElem?_eq_getElem hj']
  exact h row hrow _ (List.getElem_mem hj')
/-! scaled -/
def sp_scaled : Sp := fun vs H Q _ => ∃ (k : Int) (xs : List Nb) (a : Addr) (m : Nat), vs = [.int k, .ref a] ∧ KindOk k ∧ RowAt H xs a ∧ La.OkR k xs ∧ (∀ x ∈ xs, nsm m x) ∧ 7 ≤ m ∧ (xs.length + 2) * m ≤ 60000000 ∧
  ∀ p H', Same H H' → SclAt H' k ((xs.length + 2) * m) xs p → Q (.ref p) H'
theorem len_ok {n m : Nat} (h7 : 7 ≤ m) (h : (n + 2) * m ≤ 60000000) : n < sizeLine := by
  have h1 : (n + 2) * 7 ≤ (n + 2) * m := Nat.mul_le_mul_left _ h7
  have : sizeLine = 16777216 := by decide
  omega
theorem kn_scaled (hP : P.given.tree = none) (hS : base.NoSeer) (D : Df K mg "scaled" ["kind", "row"] s_scaled) (d_common_divisor : Kn P w K mg base "common_divisor" 1 ["one", "other"] sp_cd) (m_list : mg "list" = none) : Kn P w K mg base "scaled" 41 ["kind", "row"] sp_scaled := by
  refine D.kn sc_scaled (fun vs H Q E h => ?_) (fun f cdv A outer s H vs Q E hr h => ?_)
  · obtain ⟨k, xs, a, m, rfl, _⟩ := h; rfl
  obtain ⟨k, xs, a, m, rfl, hk, hrow, ok, sm, m7, hsz, q⟩ := h
  have kl := hk.lt
  have hlen := len_ok m7 hsz
  obtain ⟨vs, ha, hp, hvl⟩ := hrow.len
  refine ⟨_, (pss_cons (ps_if (pt_cmpR op_ne (pv 0) pe_int (nomark _)) (pss_one (ps_ret (pe_tup (pa_cons (pe_callTy (call_listK (K := K) rfl) rfl m_list bb_list (pa_cons (pv 1) pa_nil)) (pa_cons pe_int pa_nil))))) pss_nil) (pss_cons (ps_set (i := 2) sc_scaled.nd rfl (by first | exact Or.inl rfl | exact Or.inr rfl) pe_int) (pss_cons (ps_for PassesOwn.never rfl (pi_listK (K := K) rfl (pv 1)) (pg_name (i := 3) sc_scaled.nd rfl (by first | exact Or.inl rfl | exact Or.inr rfl)) (pss_one (ps_set (i := 2) sc_scaled.nd rfl (by first | exact Or.inl rfl | exact Or.inr rfl) (pe_op op_mulB (pe_op (op_fdivU hr (by decide) hP hS ⟨_, _, rfl, rfl, rfl, rfl, rfl⟩) (pv 2) (pe_kn d_common_divisor (hr.mono (by decide)) rfl (pa_cons (pv 2) (pa_cons (pe_ix (ix_tupK (K := K) rfl) (pv 3) pe_int (fun _ _ => rfl)) pa_nil)))) (pe_ix (ix_tupK (K := K) rfl) (pv 3) pe_int (fun _ _ => rfl)))))) (pss_one (ps_ret (pe_tup (pa_cons (pe_comp ["part"] ["bottom"] [2] ⟨rfl, rfl, rfl, rfl, rfl, rfl, by decide +kernel⟩ rfl (pi_listK (K := K) rfl (pv 1)) (gown_name (by decide)) fun _ _ _ _ _ _ => ⟨(pg_name (i := 0) (by decide : (["part", "bottom"] : List Str).Nodup) rfl (by first | exact Or.inl rfl | exact Or.inr rfl)), pts_nil, (pe_op op_mulB (pe_ix (ix_tupK (K := K) rfl) (pv 0) pe_int (fun _ _ => rfl)) (pe_op (op_fdivU hr (by decide) hP hS ⟨_, _, rfl, rfl, rfl, rfl, rfl⟩) (pv 1) (pe_ix (ix_tupK (K := K) rfl) (pv 0) pe_int (fun _ _ => rfl))))⟩) (pa_cons (pv 2) pa_nil)))))))), ?_⟩
  refine ⟨_, rfl, rfl, _, rfl, ?_⟩
  have m1 : m ≤ (xs.length + 2) * m := Nat.le_mul_of_pos_left _ (by omega)
  refine ite2 (fun c => ?_) (fun c => ?_)
  · have k0 : k ≠ 0 := fun z => by rw [z] at c; exact absurd c (by decide)
    obtain ⟨is, rfl, rfl⟩ := row_rests k0 ok hp
    refine ⟨_, rfl, a, _, rfl, .inl (SqL.of ha), fun l hl => ⟨(by show 2 ≤ sizeLine; decide), fun p hp' => ?_⟩⟩
    have n1 : l ≠ p := fun e => by rw [e, upd_same] at hp'; cases hp'
    refine q p _ ((same_new hl _).trans (same_new hp' _)) ⟨l, is, 1, upd_same, ?_, scl_rests k0 is, ?_, fun w hw => ?_⟩
    · show upd _ _ _ l = _
      rw [upd_ne n1]; exact upd_same
    · exact sm_one.mono (by omega)
    · have h := sm (.z w) (List.mem_map.mpr ⟨w, hw, rfl⟩)
      exact Sm.mono (show Sm m w from h) m1
  · have k0 : k = 0 := by
      by_cases z : k = 0
      · exact z
      · exact absurd (by have h' : ¬ V.int k = V.int 0 := fun e => z (V.int.inj e)
                         rw [decide_eq_false h']; rfl) c
    subst k0
    have isq : ∀ (i : Nat) (x : Nb), xs[i]? = some x → ∃ r, x = .q r := fun i x hx => by
      have o := ok x (List.mem_of_getElem? hx)
      cases x with
      | q r => exact ⟨r, rfl⟩
      | z j => exact absurd rfl o.1
    refine ⟨_, rfl, a, rfl, ⟨_, SqL.of ha⟩, ?_⟩
    refine for_list (xs := vs) (fun i σ H' => ∃ b o, σ = [some (.int 0), some (.ref a), some (.int b), o] ∧ H' = H ∧ 0 < b ∧ (∀ x ∈ xs.take i, La.dvB b x) ∧ Sm (1 + i * m) b) ⟨1, none, rfl, rfl, by decide, fun x hx => by simp at hx, sm_one.mono (by omega)⟩ ?_ ?_ ?_
    · rintro i σ H' _ ⟨b, o, rfl, rfl, _⟩
      exact SqL.of ha
    · rintro i v σ H' hv ⟨b, o, rfl, rfl, b0, dv, sb⟩
      obtain ⟨x, hx, rx⟩ := pd_right hp hv
      obtain ⟨r, rfl⟩ := isq i x hx
      obtain ⟨pa, rfl, hpa⟩ := rx.q
      have sx := sm _ (List.mem_of_getElem? hx)
      have il : i < xs.length := (List.getElem?_eq_some_iff.mp hx).1
      obtain ⟨l1, l2, l3, l4⟩ := lcm_step b0 (den_pos r)
      have sf : Sm (1 + i * m) (b.fdiv ((Int.gcd b (r.den : Int) : Nat) : Int)) := sm_fdiv sb (Int.gcd_dvd_left _ _)
      have im : (i + 2) * m ≤ (xs.length + 2) * m := Nat.mul_le_mul_right _ (by omega)
      have im2 : (i + 2) * m = i * m + 2 * m := Nat.add_mul _ _ _
      refine ⟨_, rfl, _, rfl, _, rfl, pa, _, _, _, rfl, rfl, SqT.of hpa, rfl, _, _, rfl, _, _, rfl, rfl, l4, ?_⟩
      refine ⟨_, rfl, pa, _, _, _, rfl, rfl, SqT.of hpa, rfl, _, _, rfl, rfl, sf.mulOk sx.2 (by omega), ?_⟩
      refine ⟨_, _, rfl, rfl, l1, fun y hy => ?_, ?_⟩
      · rw [take_snoc hx] at hy
        rcases List.mem_append.mp hy with hy | hy
        · have := dv y hy
          cases y with
          | q s => exact Int.dvd_trans (show (s.den : Int) ∣ b from this) l2
          | z j => trivial
        · rw [List.mem_singleton.mp hy]; exact l3
      · refine (sf.mul sx.2).mono ?_
        rw [Nat.add_mul]; omega
    · rintro σ H' ⟨b, o, rfl, rfl, b0, dv, sb⟩
      rw [hvl] at dv sb
      rw [List.take_length] at dv
      have e2 : (xs.length + 2) * m = xs.length * m + 2 * m := Nat.add_mul _ _ _
      refine ⟨_, rfl, a, rfl, ⟨_, SqL.of ha⟩, ?_⟩
      refine comp_list (xs := vs) (fun i ys H2 => H2 = H' ∧ ys = ((xs.take i).map (La.scW b)).map V.int) ⟨rfl, by simp⟩ ?_ ?_ ?_
      · rintro i ys H2 hi ⟨rfl, rfl⟩
        refine ⟨SqL.of ha, ?_⟩
        rw [List.length_map, List.length_map, List.length_take]
        omega
      · rintro i v ys H2 hv hi ⟨rfl, rfl⟩
        obtain ⟨x, hx, rx⟩ := pd_right hp hv
        obtain ⟨r, rfl⟩ := isq i x hx
        obtain ⟨pa, rfl, hpa⟩ := rx.q
        have sx := sm _ (List.mem_of_getElem? hx)
        have dx : (r.den : Int) ∣ b := dv _ (List.mem_of_getElem? hx)
        first | refine gyes ?_ | refine tyes ?_
        refine ⟨_, rfl, pa, _, _, _, rfl, rfl, SqT.of hpa, rfl, _, rfl, _, rfl, pa, _, _, _, rfl, rfl, SqT.of hpa, rfl, _, _, rfl, rfl, den_ne r, _, _, rfl, rfl, sx.1.mulOk (sm_fdiv sb dx) (by omega), nxt hi ⟨rfl, ?_⟩⟩
        rw [take_snoc hx, List.map_append, List.map_append]; rfl
      · rintro ys H2 ⟨rfl, rfl⟩ l hl
        rw [hvl, List.take_length] at *
        refine ⟨_, rfl, (by show 2 ≤ sizeLine; decide), fun p hp' => ?_⟩
        have n1 : l ≠ p := fun e => by rw [e, upd_same] at hp'; cases hp'
        refine q p _ ((same_new hl _).trans (same_new hp' _)) ⟨l, xs.map (La.scW b), b, upd_same, ?_, ⟨rfl, b0, fun z => absurd rfl z, dv⟩, sb.mono (by omega), fun w hw => ?_⟩
        · show upd _ _ _ l = _
          rw [upd_ne n1]; exact upd_same
        · obtain ⟨x, hx, rfl⟩ := List.mem_map.mp hw
          obtain ⟨i, hi, e⟩ := List.getElem_of_mem hx
          obtain ⟨r, rfl⟩ := isq i x (by rw [List.getElem?_eq_getElem hi, e])
          have sx := sm _ hx
          exact (sx.1.mul (sm_fdiv sb (dv _ hx))).mono (by omega)
/-! quotient -/
def sp_quot : Sp := fun vs H Q _ => ∃ (k t b : Int), vs = [.int k, .int t, .int b] ∧ KindOk k ∧ nnum k b ≠ nnum k 0 ∧ Sm 60000000 t ∧ Sm 60000000 b ∧ ∀ v H', Same H H' → RN H' (ndiv k (nnum k t) (nnum k b)) v → Q v H'
theorem kn_quot (D : Df K mg "quotient" ["kind", "top", "bottom"] s_quotient) (d_over : Kn P w K mg base "over" 42 ["kind", "one", "other"] sp_over) (d_number : Kn P w K mg base "number" 1 ["kind", "whole"] sp_number) : Kn P w K mg base "quotient" 43 ["kind", "top", "bottom"] sp_quot := by
  refine D.kn sc_quotient (fun vs H Q E h => ?_) (fun f cdv A outer s H vs Q E hr h => ?_)
  · obtain ⟨k, t, b, rfl, _⟩ := h; rfl
  obtain ⟨k, t, b, rfl, hk, ne, st, sb, q⟩ := h
  refine ⟨_, (pss_one (ps_ret (pe_kn d_over (hr.mono (by decide)) rfl (pa_cons (pv 0) (pa_cons (pe_kn d_number (hr.mono (by decide)) rfl (pa_cons (pv 0) (pa_cons (pv 1) pa_nil))) (pa_cons (pe_kn d_number (hr.mono (by decide)) rfl (pa_cons (pv 0) (pa_cons (pv 2) pa_nil))) pa_nil)))))), ?_⟩
  refine ⟨_, rfl, _, rfl, _, rfl, k, t, rfl, fun v1 H1 g1 r1 => ?_⟩
  refine ⟨_, rfl, _, rfl, k, b, rfl, fun v2 H2 g2 r2 => ?_⟩
  refine ⟨k, _, _, v1, v2, rfl, ⟨hk, La.nnum_ok hk t, La.nnum_ok hk b, nsm_num hk st (by decide), nsm_num hk sb (by decide), r1.mono g2, r2⟩, ne, fun v3 H3 g3 r3 => ?_⟩
  exact q v3 H3 ((g1.trans g2).trans g3) r3
/-! whole_sum -/
def sp_wsum : Sp := fun vs H Q _ => ∃ (ws us : List Int) (l l' : Addr) (m : Nat), vs = [.ref l, .ref l'] ∧ IRow H ws l ∧ IRow H us l' ∧ ws.length = us.length ∧ (∀ w ∈ ws, Sm m w) ∧ (∀ w ∈ us, Sm m w) ∧ 2 * m ≤ 60000000 ∧ ws.length < sizeLine ∧
  ∀ H', Same H H' → Q (.int (List.zipWith (· * ·) ws us).sum) H'
theorem kn_wsum (D : Df K mg "whole_sum" ["one", "other"] s_whole_sum) (m_sum : mg "sum" = none) (m_zip : mg "zip" = none) : Kn P w K mg base "whole_sum" 1 ["one", "other"] sp_wsum := by
  refine D.kn sc_whole_sum (fun vs H Q E h => ?_) (fun f cdv A outer s H vs Q E hr h => ?_)
  · obtain ⟨ws, us, l, l', m, rfl, _⟩ := h; rfl
  obtain ⟨ws, vs, l, l', m, rfl, hl, hl', hlen, sw, sw', hsz, hz, q⟩ := h
  refine ⟨_, (pss_one (ps_ret (pe_callB (call_sumK (K := K) rfl rfl) rfl m_sum bb_sum (pa_cons (pe_comp ["left", "right"] [] [] ⟨rfl, rfl, rfl, rfl, rfl, rfl, by decide +kernel⟩ rfl (pi_zipK (K := K) rfl rfl m_zip (pa_cons (pv 0) (pa_cons (pv 1) pa_nil))) (gown_tup (gowns_cons (gown_name (by decide)) gmono_name (gowns_cons (gown_name (by decide)) gmono_name gowns_nil))) fun _ _ _ _ _ _ => ⟨(pg_tupK (K := K) 2 rfl rfl (pgs_cons (pg_name (i := 0) (by decide : (["left", "right"] : List Str).Nodup) rfl (by first | exact Or.inl rfl | exact Or.inr rfl)) (pgs_cons (pg_name (i := 1) (by decide : (["left", "right"] : List Str).Nodup) rfl (by first | exact Or.inl rfl | exact Or.inr rfl)) pgs_nil))), pts_nil, (pe_op op_mulB (pv 0) (pv 1))⟩) pa_nil)))), ?_⟩
  refine ⟨_, rfl, _, rfl, l, l', ws.map V.int, vs.map V.int, rfl, SqL.of hl, SqL.of hl', ?_⟩
  refine comp_zip (xs := ws.map V.int) (zs := vs.map V.int) (by rw [List.length_map, List.length_map]; omega) (fun i ys' H' => Same H H' ∧ ys' = ((List.zipWith (· * ·) ws vs).take i).map V.int) ⟨Same.refl H, by simp⟩ ?_ ?_ ?_
  · rintro i ys' H' hi ⟨g, rfl⟩
    refine ⟨SqL.of (hl.mono g), SqL.of (hl'.mono g), ?_⟩
    rw [List.length_map, List.length_take, List.length_zipWith]
    omega
  · rintro i x z T ys' H' hx hy hi hT ⟨g, rfl⟩
    rw [List.getElem?_map] at hx hy
    obtain ⟨u, hu, rfl⟩ := Option.map_eq_some_iff.mp hx
    obtain ⟨u', hu', rfl⟩ := Option.map_eq_some_iff.mp hy
    refine ⟨T, _, rfl, SqT.of upd_same, rfl, _, _, rfl, _, _, rfl, rfl, ?_⟩
    first | refine gyes ?_ | refine tyes ?_
    refine ⟨_, rfl, _, rfl, _, _, rfl, rfl, (sw u (List.mem_of_getElem? hu)).mulOk (sw' u' (List.mem_of_getElem? hu')) (by omega), nxt hi ⟨g.trans (same_new hT _), ?_⟩⟩
    have e : (List.zipWith (· * ·) ws vs)[i]? = some (u * u') := by rw [List.getElem?_zipWith, hu, hu']
    rw [take_snoc e, List.map_append]; rfl
  · rintro ys' H' ⟨g, rfl⟩ pl hpl
    have el : (ws.map V.int).length = (List.zipWith (· * ·) ws vs).length := by rw [List.length_map, List.length_zipWith]; omega
    rw [el, List.take_length]
    exact ⟨pl, _, rfl, SqL.of upd_same, q _ (g.trans (same_new hpl (.lst ((List.zipWith (· * ·) ws vs).map V.int))))⟩
/-! sum_of_products -/
def sp_sop : Sp := fun vs H Q _ => ∃ (k : Int) (xs ys : List Nb) (p p' : Addr) (m : Nat), vs = [.int k, .ref p, .ref p'] ∧ KindOk k ∧ SclAt H k m xs p ∧ SclAt H k m ys p' ∧ La.OkR k xs ∧ La.OkR k ys ∧ xs.length = ys.length ∧ 7 ≤ m ∧ 2 * m + xs.length ≤ 60000000 ∧ xs.length < sizeLine ∧
  ∀ v H', Same H H' → RN H' (La.ndot k xs ys) v → Q v H'
theorem kn_sop (D : Df K mg "sum_of_products" ["kind", "one", "other"] s_sum_of_products) (d_quotient : Kn P w K mg base "quotient" 43 ["kind", "top", "bottom"] sp_quot) (d_whole_sum : Kn P w K mg base "whole_sum" 1 ["one", "other"] sp_wsum) : Kn P w K mg base "sum_of_products" 44 ["kind", "one", "other"] sp_sop := by
  refine D.kn sc_sum_of_products (fun vs H Q E h => ?_) (fun f cdv A outer s H vs Q E hr h => ?_)
  · obtain ⟨k, xs, ys, p, p', m, rfl, _⟩ := h; rfl
  obtain ⟨k, xs, ys, p, p', m, rfl, hk, ⟨l, ws, b, hp, hl, sc, sb, sw⟩, ⟨l', vs, b', hp', hl', sc', sb', sw'⟩, ox, oy, hlen, m7, hsz, hz, q⟩ := h
  refine ⟨_, (pss_one (ps_ret (pe_kn d_quotient (hr.mono (by decide)) rfl (pa_cons (pv 0) (pa_cons (pe_kn d_whole_sum (hr.mono (by decide)) rfl (pa_cons (pe_ix (ix_tupK (K := K) rfl) (pv 1) pe_int (fun _ _ => rfl)) (pa_cons (pe_ix (ix_tupK (K := K) rfl) (pv 2) pe_int (fun _ _ => rfl)) pa_nil))) (pa_cons (pe_op op_mulB (pe_ix (ix_tupK (K := K) rfl) (pv 1) pe_int (fun _ _ => rfl)) (pe_ix (ix_tupK (K := K) rfl) (pv 2) pe_int (fun _ _ => rfl))) pa_nil)))))), ?_⟩
  have ewl := sc.len
  have evl := sc'.len
  refine ⟨_, rfl, _, rfl, p, _, _, _, rfl, rfl, SqT.of hp, rfl, _, rfl, p', _, _, _, rfl, rfl, SqT.of hp', rfl, ws, vs, l, l', m, rfl, hl, hl', (by omega), sw, sw', (by omega), (by omega), fun H' g2 => ?_⟩
  obtain ⟨ne, e⟩ := La.sop_eq hk hlen sc sc' ox oy
  have st : Sm (m + m + (List.zipWith (· * ·) ws vs).length) (List.zipWith (· * ·) ws vs).sum := sm_sum fun w hw => by
    obtain ⟨i, hi, e⟩ := List.getElem_of_mem hw
    rw [List.getElem_zipWith] at e
    rw [← e]
    exact (sw _ (List.getElem_mem _)).mul (sw' _ (List.getElem_mem _))
  rw [List.length_zipWith] at st
  refine ⟨_, rfl, p, _, _, _, rfl, rfl, SqT.of (g2 _ _ hp), rfl, _, rfl, p', _, _, _, rfl, rfl, SqT.of (g2 _ _ hp'), rfl, _, _, rfl, rfl, sb.mulOk sb' (by omega), k, _, _, rfl, hk, ne, st.mono (by omega), (sb.mul sb').mono (by omega), fun v H2 g3 r => ?_⟩
  rw [e] at r
  exact q v H2 (g2.trans g3) r
/-! sizes -/
theorem dbl_ok {n m : Nat} (h7 : 7 ≤ m) (h : (n + 2) * m ≤ 20000000) : 2 * ((n + 2) * m) + n ≤ 60000000 ∧ 7 ≤ (n + 2) * m ∧ n < sizeLine ∧ (n + 2) * m ≤ 60000000 := by
  have h1 : (n + 2) * 7 ≤ (n + 2) * m := Nat.mul_le_mul_left _ h7
  have : sizeLine = 16777216 := by decide
  omega
/-! image -/
def sp_image : Sp := fun vs H Q _ => ∃ (k : Int) (M : List (List Nb)) (xs : List Nb) (b m : Nat) (t1 a : Addr) (r1 : List Addr), vs = [.int k, .ref t1, .ref a] ∧ KindOk k ∧ TabAt H M t1 r1 ∧ RowAt H xs a ∧ La.OkM k b M ∧ xs.length = b ∧ La.OkR k xs ∧ szM m M ∧ (∀ x ∈ xs, nsm m x) ∧ 7 ≤ m ∧ (b + 2) * m ≤ 20000000 ∧ M.length < sizeLine ∧
  ∀ p H', Same H H' → NewR H H' (imgM k M xs) p → Q (.ref p) H'
theorem kn_image (D : Df K mg "image" ["kind", "table", "row"] s_image) (d_scaled : Kn P w K mg base "scaled" 41 ["kind", "row"] sp_scaled) (d_sum_of_products : Kn P w K mg base "sum_of_products" 44 ["kind", "one", "other"] sp_sop) : Kn P w K mg base "image" 45 ["kind", "table", "row"] sp_image := by
  refine D.kn sc_image (fun vs H Q E h => ?_) (fun f cdv A outer s H vs Q E hr h => ?_)
  · obtain ⟨k, M, xs, b, m, t1, a, r1, rfl, _⟩ := h; rfl
  obtain ⟨k, M, xs, b, m, t1, a, r1, rfl, hk, hM, hx, oM, lx, ox, sM, sx, m7, hsz, mz, q⟩ := h
  refine ⟨_, (pss_cons (ps_set (i := 3) sc_image.nd rfl (by first | exact Or.inl rfl | exact Or.inr rfl) (pe_kn d_scaled (hr.mono (by decide)) rfl (pa_cons (pv 0) (pa_cons (pv 2) pa_nil)))) (pss_one (ps_ret (pe_comp ["left"] ["kind", "right"] [0, 3] ⟨rfl, rfl, rfl, rfl, rfl, rfl, by decide +kernel⟩ rfl (pi_listK (K := K) rfl (pv 1)) (gown_name (by decide)) fun _ _ _ _ _ _ => ⟨(pg_name (i := 0) (by decide : (["left", "kind", "right"] : List Str).Nodup) rfl (by first | exact Or.inl rfl | exact Or.inr rfl)), pts_nil, (pe_kn d_sum_of_products (hr.mono (by decide)) rfl (pa_cons (pv 1) (pa_cons (pe_kn d_scaled (hr.mono (by decide)) rfl (pa_cons (pv 1) (pa_cons (pv 0) pa_nil))) (pa_cons (pv 2) pa_nil))))⟩)))), ?_⟩
  obtain ⟨z1, z2, z3, z4⟩ := dbl_ok m7 hsz
  refine ⟨_, rfl, _, rfl, k, xs, a, m, rfl, hk, hx, ox, sx, m7, by rw [lx]; exact z4, fun p0 H0 g0 sc0 => ?_⟩
  rw [lx] at sc0
  refine ⟨_, rfl, t1, rfl, ⟨_, SqL.of (g0 _ _ hM.1)⟩, ?_⟩
  have hl := pd_len hM.2
  refine comp_list (xs := r1.map V.ref) (fun i ys H' => Same H0 H' ∧ Paired (RN H') ((imgM k M xs).take i) ys) ⟨Same.refl _, .nil⟩ ?_ ?_ ?_
  · rintro i ys H' hi ⟨g, pr⟩
    refine ⟨SqL.of (g _ _ (g0 _ _ hM.1)), ?_⟩
    have := pd_len pr
    unfold imgM at this
    rw [List.length_take, List.length_map] at this
    omega
  · rintro i v ys H' hv hi ⟨g, pr⟩
    obtain ⟨row, ra, hrow, ha, rfl, hR⟩ := (hM.mono (g0.trans g)).row hv
    obtain ⟨lr, orow⟩ := oM row (List.mem_of_getElem? hrow)
    first | refine gyes ?_ | refine tyes ?_
    refine ⟨_, rfl, _, rfl, _, rfl, k, row, ra, m, rfl, hk, hR, orow, sM row (List.mem_of_getElem? hrow), m7, by rw [lr]; exact z4, fun p1 H1 g1 sc1 => ?_⟩
    rw [lr] at sc1
    refine ⟨_, rfl, k, row, xs, p1, p0, (b + 2) * m, rfl, hk, sc1, sc0.mono (g.trans g1), orow, ox, by rw [lr, lx], z2, by rw [lr]; exact z1, by rw [lr]; exact z3, fun v2 H2 g2 r2 => ?_⟩
    refine nxt hi ⟨(g.trans g1).trans g2, ?_⟩
    have e : (imgM k M xs)[i]? = some (La.ndot k row xs) := by unfold imgM; rw [List.getElem?_map, hrow]; rfl
    rw [take_snoc e]
    exact pd_snoc (pd_rn (g1.trans g2) pr) r2
  · rintro ys H' ⟨g, pr⟩ p hp
    rw [List.length_map, List.take_of_length_le (by unfold imgM; rw [List.length_map]; omega)] at pr
    exact q p _ ((g0.trans g).trans (same_new hp _)) ⟨⟨ys, upd_same, pd_rn (same_new hp _) pr⟩, (g0.trans g).none hp⟩
/-! abreast -/
def sp_abreast : Sp := fun vs H Q _ => ∃ (A B : List (List Nb)) (n h : Nat) (ta tb : Addr) (ra rb : List Addr), vs = [.ref ta, .ref tb] ∧ TabAt H A ta ra ∧ TabAt H B tb rb ∧ A.length = B.length ∧ (∀ r ∈ A, r.length = n) ∧ (∀ r ∈ B, r.length = h) ∧ n + h ≤ sizeLine ∧ A.length < sizeLine ∧
  ∀ p ras H', Same H H' → NewT H H' (augM A B) p ras → Q (.ref p) H'
theorem kn_abreast (D : Df K mg "abreast" ["one", "other"] s_abreast) (m_zip : mg "zip" = none) : Kn P w K mg base "abreast" 1 ["one", "other"] sp_abreast := by
  refine D.kn sc_abreast (fun vs H Q E h => ?_) (fun f cdv A' outer s' H vs Q E hr h => ?_)
  · obtain ⟨A, B, n, h, ta, tb, ra, rb, rfl, _⟩ := h; rfl
  obtain ⟨A, B, n, h, ta, tb, ra, rb, rfl, hA, hB, lAB, nA, nB, nh, lA, q⟩ := h
  have szl : sizeLine = 16777216 := by decide
  refine ⟨_, (pss_one (ps_ret (pe_comp ["left", "right"] [] [] ⟨rfl, rfl, rfl, rfl, rfl, rfl, by decide +kernel⟩ rfl (pi_zipK (K := K) rfl rfl m_zip (pa_cons (pv 0) (pa_cons (pv 1) pa_nil))) (gown_tup (gowns_cons (gown_name (by decide)) gmono_name (gowns_cons (gown_name (by decide)) gmono_name gowns_nil))) fun _ _ _ _ _ _ => ⟨(pg_tupK (K := K) 2 rfl rfl (pgs_cons (pg_name (i := 0) (by decide : (["left", "right"] : List Str).Nodup) rfl (by first | exact Or.inl rfl | exact Or.inr rfl)) (pgs_cons (pg_name (i := 1) (by decide : (["left", "right"] : List Str).Nodup) rfl (by first | exact Or.inl rfl | exact Or.inr rfl)) pgs_nil))), pts_nil, (pe_op op_cat (pv 0) (pv 1))⟩))), ?_⟩
  have la := pd_len hA.2
  have lb := pd_len hB.2
  refine ⟨_, rfl, _, rfl, ta, tb, _, _, rfl, SqL.of hA.1, SqL.of hB.1, ?_⟩
  refine comp_zip (xs := ra.map V.ref) (zs := rb.map V.ref) (by rw [List.length_map, List.length_map]; omega) (fun i ys H' => ∃ ras, ys = ras.map V.ref ∧ Grow H H' ((augM A B).take i) ras) ⟨[], rfl, Grow.nil H (Same.refl H)⟩ ?_ ?_ ?_
  · rintro i ys H' hi ⟨ras, rfl, G⟩
    refine ⟨SqL.of (G.same _ _ hA.1), SqL.of (G.same _ _ hB.1), ?_⟩
    have := pd_len G.rows
    rw [List.length_take] at this
    rw [List.length_map] at hi ⊢; omega
  · rintro i x z T ys H' hx' hz' hi hT ⟨ras, rfl, G⟩
    have g' := same_new hT (.tup [x, z])
    have G1 := G.mono g'
    obtain ⟨row, a, hrow, ha, rfl, hR⟩ := (hA.mono G1.same).row hx'
    obtain ⟨row2, a2, hrow2, ha2, rfl, hR2⟩ := (hB.mono G1.same).row hz'
    obtain ⟨us1, hu1, pu1, lu1⟩ := hR.len
    obtain ⟨us2, hu2, pu2, lu2⟩ := hR2.len
    have r1 := nA _ (List.mem_of_getElem? hrow)
    have r2 := nB _ (List.mem_of_getElem? hrow2)
    refine ⟨T, _, rfl, SqT.of upd_same, rfl, _, _, rfl, _, _, rfl, rfl, ?_⟩
    generalize upd H' T (.tup [.ref a, .ref a2]) = H1 at *
    first | refine gyes ?_ | refine tyes ?_
    refine ⟨_, rfl, _, rfl, a, a2, _, _, rfl, rfl, hu1, hu2, (by rw [lu1, lu2, r1, r2]; exact nh), fun p hp => ?_⟩
    refine nxt hi ⟨ras ++ [p], by rw [List.map_append]; rfl, ?_⟩
    rw [take_snoc (augM_get hrow hrow2)]
    exact G1.snoc hp (pd_app pu1 pu2)
  · rintro ys H' ⟨ras, rfl, G⟩ pb hpb
    rw [List.length_map, List.take_of_length_le (by unfold augM; rw [List.length_zipWith]; omega)] at G
    have N := G.done hpb
    have g1 := G.same.trans (same_new hpb (.lst (ras.map V.ref)))
    exact q pb ras _ g1 N
/-! leading -/
def sp_leading : Sp := fun vs H Q _ => ∃ (k : Int) (A B C : List (List Nb)) (n h s m : Nat) (pm ta tb tc : Addr) (ra rb rc : List Addr), vs = [.ref pm] ∧ MachAt H A B C pm ta tb tc ra rb rc ∧ MOk k n h s m A B C ∧ (n + h + 2) * m ≤ 20000000 ∧ 7 ≤ m ∧
  ∀ p ras H', Same H H' → NewT H H' (augM A B) p ras → Q (.ref p) H'
theorem kn_leading (D : Df K mg "leading" ["machine"] s_leading) (d_abreast : Kn P w K mg base "abreast" 1 ["one", "other"] sp_abreast) : Kn P w K mg base "leading" 2 ["machine"] sp_leading := by
  refine D.kn sc_leading (fun vs H Q E h => ?_) (fun f cdv A' outer s' H vs Q E hr h => ?_)
  · obtain ⟨k, A, B, C, n, h, s, m, pm, ta, tb, tc, ra, rb, rc, rfl, _⟩ := h; rfl
  obtain ⟨k, A, B, C, n, h, s, m, pm, ta, tb, tc, ra, rb, rc, rfl, hM, oM, hsz, m7, q⟩ := h
  obtain ⟨z1, z2, z3, z4⟩ := dbl_ok m7 hsz
  have szl : sizeLine = 16777216 := by decide
  refine ⟨_, (pss_one (ps_ret (pe_kn d_abreast (hr.mono (by decide)) rfl (pa_cons (pe_ix (ix_tupK (K := K) rfl) (pv 0) pe_int (fun _ _ => rfl)) (pa_cons (pe_ix (ix_tupK (K := K) rfl) (pv 0) pe_int (fun _ _ => rfl)) pa_nil))))), ?_⟩
  exact ⟨_, rfl, pm, _, _, _, rfl, rfl, SqT.of hM.tup, rfl, _, rfl, pm, _, _, _, rfl, rfl, SqT.of hM.tup, rfl, A, B, n, h, ta, tb, ra, rb, rfl, hM.a, hM.b, by rw [oM.a.len, oM.b.len], fun r hr => (oM.a.ok r hr).1, fun r hr => (oM.b.ok r hr).1, by omega, by rw [oM.a.len]; omega, q⟩
/-! next_of -/
def sp_next : Sp := fun vs H Q _ => ∃ (k : Int) (A B C : List (List Nb)) (xs us : List Nb) (n h s m : Nat) (pm ta tb tc ax au : Addr) (ra rb rc : List Addr), vs = [.int k, .ref pm, .ref ax, .ref au] ∧ KindOk k ∧ MachAt H A B C pm ta tb tc ra rb rc ∧ RowAt H xs ax ∧ RowAt H us au ∧ MOk k n h s m A B C ∧ ROk k n m xs ∧ ROk k h m us ∧ 7 ≤ m ∧ (n + h + 2) * m ≤ 20000000 ∧
  ∀ p H', Same H H' → NewR H H' (nextM k A B xs us) p → Q (.ref p) H'
theorem kn_next (D : Df K mg "next_of" ["kind", "machine", "standing", "inputs"] s_next_of) (d_image : Kn P w K mg base "image" 45 ["kind", "table", "row"] sp_image) (d_leading : Kn P w K mg base "leading" 2 ["machine"] sp_leading) : Kn P w K mg base "next_of" 46 ["kind", "machine", "standing", "inputs"] sp_next := by
  refine D.kn sc_next_of (fun vs H Q E h => ?_) (fun f cdv A' outer s' H vs Q E hr h => ?_)
  · obtain ⟨k, A, B, C, xs, us, n, h, s, m, pm, ta, tb, tc, ax, au, ra, rb, rc, rfl, _⟩ := h; rfl
  obtain ⟨k, A, B, C, xs, us, n, h, s, m, pm, ta, tb, tc, ax, au, ra, rb, rc, rfl, hk, hM, hx, hu, oM, rx, ru, m7, hsz, q⟩ := h
  obtain ⟨z1, z2, z3, z4⟩ := dbl_ok m7 hsz
  have szl : sizeLine = 16777216 := by decide
  refine ⟨_, (pss_one (ps_ret (pe_kn d_image (hr.mono (by decide)) rfl (pa_cons (pv 0) (pa_cons (pe_kn d_leading (hr.mono (by decide)) rfl (pa_cons (pv 1) pa_nil)) (pa_cons (pe_op op_cat (pv 2) (pv 3)) pa_nil)))))), ?_⟩
  have oAB := augM_tok oM.a oM.b
  refine ⟨_, rfl, _, rfl, k, A, B, C, n, h, s, m, pm, ta, tb, tc, ra, rb, rc, rfl, hM, oM, hsz, m7, fun pb ras H1 g1 N => ?_⟩
  obtain ⟨us1, hu1, pu1, lu1⟩ := (hx.mono g1).len
  obtain ⟨us2, hu2, pu2, lu2⟩ := (hu.mono g1).len
  refine ⟨_, rfl, _, rfl, ax, au, _, _, rfl, rfl, hu1, hu2, (by rw [lu1, lu2, rx.len, ru.len]; omega), fun p hp => ?_⟩
  have g2 := same_new hp (.lst (us1 ++ us2))
  have R2 : RowAt (upd H1 p (.lst (us1 ++ us2))) (xs ++ us) p := ⟨_, upd_same, pd_rn g2 (pd_app pu1 pu2)⟩
  generalize upd H1 p (.lst (us1 ++ us2)) = H2 at *
  have rxu := rx.app ru
  refine ⟨k, augM A B, xs ++ us, n + h, m, pb, p, ras, rfl, hk, N.tab.mono g2, R2, oAB.ok, rxu.len, rxu.ok, oAB.sz, rxu.sz, m7, hsz, (by rw [oAB.len]; omega), fun pr H3 g3 nr => ?_⟩
  exact q pr H3 ((g1.trans g2).trans g3) ⟨nr.row, (g1.trans g2).none nr.fa⟩
/-! seen_of -/
def sp_seen : Sp := fun vs H Q _ => ∃ (k : Int) (A B C : List (List Nb)) (xs : List Nb) (n h s m : Nat) (pm ta tb tc ax : Addr) (ra rb rc : List Addr), vs = [.int k, .ref pm, .ref ax] ∧ KindOk k ∧ MachAt H A B C pm ta tb tc ra rb rc ∧ RowAt H xs ax ∧ MOk k n h s m A B C ∧ ROk k n m xs ∧ 7 ≤ m ∧ (n + h + 2) * m ≤ 20000000 ∧ s ≤ 1000 ∧
  ∀ p H', Same H H' → NewR H H' (imgM k C xs) p → Q (.ref p) H'
theorem kn_seen (D : Df K mg "seen_of" ["kind", "machine", "standing"] s_seen_of) (d_image : Kn P w K mg base "image" 45 ["kind", "table", "row"] sp_image) : Kn P w K mg base "seen_of" 46 ["kind", "machine", "standing"] sp_seen := by
  refine D.kn sc_seen_of (fun vs H Q E h => ?_) (fun f cdv A' outer s' H vs Q E hr h => ?_)
  · obtain ⟨k, A, B, C, xs, n, h, s, m, pm, ta, tb, tc, ax, ra, rb, rc, rfl, _⟩ := h; rfl
  obtain ⟨k, A, B, C, xs, n, h, s, m, pm, ta, tb, tc, ax, ra, rb, rc, rfl, hk, hM, hx, oM, rx, m7, hsz, s1000, q⟩ := h
  have szl : sizeLine = 16777216 := by decide
  have hsz' : (n + 2) * m ≤ 20000000 := Nat.le_trans (Nat.mul_le_mul_right _ (by omega)) hsz
  refine ⟨_, (pss_one (ps_ret (pe_kn d_image (hr.mono (by decide)) rfl (pa_cons (pv 0) (pa_cons (pe_ix (ix_tupK (K := K) rfl) (pv 1) pe_int (fun _ _ => rfl)) (pa_cons (pv 2) pa_nil)))))), ?_⟩
  exact ⟨_, rfl, _, rfl, pm, _, _, _, rfl, rfl, SqT.of hM.tup, rfl, _, rfl, k, C, xs, n, m, tc, ax, rc, rfl, hk, hM.c, hx, oM.c.ok, rx.len, rx.ok, oM.c.sz, rx.sz, m7, hsz', (by rw [oM.c.len]; omega), q⟩
/-! run -/
def sp_run : Sp := fun vs H Q _ => ∃ (k : Int) (A B C : List (List Nb)) (xs : List Nb) (U : List (List Nb)) (n h s m : Nat) (pm ta tb tc ax tu : Addr) (ra rb rc ru : List Addr), vs = [.int k, .ref pm, .ref ax, .ref tu] ∧ KindOk k ∧ MachAt H A B C pm ta tb tc ra rb rc ∧ RowAt H xs ax ∧ TabAt H U tu ru ∧ MOk k n h s m A B C ∧ TOk k U.length h m U ∧ (∀ i, i ≤ U.length → ROk k n m (stM k A B xs (U.take i))) ∧ 7 ≤ m ∧ (n + h + 2) * m ≤ 20000000 ∧ s ≤ 1000 ∧ U.length ≤ 1000 ∧
  ∀ t ras H', Same H H' → NewT H H' (runM k A B C xs U) t ras → Q (.ref t) H'
theorem kn_run (D : Df K mg "run" ["kind", "machine", "standing", "inputs"] s_run) (d_next_of : Kn P w K mg base "next_of" 46 ["kind", "machine", "standing", "inputs"] sp_next) (d_seen_of : Kn P w K mg base "seen_of" 46 ["kind", "machine", "standing"] sp_seen) : Kn P w K mg base "run" 47 ["kind", "machine", "standing", "inputs"] sp_run := by
  refine D.kn sc_run (fun vs H Q E h => ?_) (fun f cdv A' outer s' H vs Q E hr h => ?_)
  · obtain ⟨k, A, B, C, xs, U, n, h, s, m, pm, ta, tb, tc, ax, tu, ra, rb, rc, ru, rfl, _⟩ := h; rfl
  obtain ⟨k, A, B, C, xs, U, n, h, s, m, pm, ta, tb, tc, ax, tu, ra, rb, rc, ru, rfl, hk, hM, hx, hU, oM, oU, st, m7, hsz, s1000, u1000, q⟩ := h
  have szl : sizeLine = 16777216 := by decide
  refine ⟨_, (pss_cons (ps_set (i := 4) sc_run.nd rfl (by first | exact Or.inl rfl | exact Or.inr rfl) (pv 2)) (pss_cons (ps_set (i := 5) sc_run.nd rfl (by first | exact Or.inl rfl | exact Or.inr rfl) (pe_lst (pa_cons (pe_kn d_seen_of (hr.mono (by decide)) rfl (pa_cons (pv 0) (pa_cons (pv 1) (pa_cons (pv 4) pa_nil)))) pa_nil))) (pss_cons (ps_for PassesOwn.never rfl (pi_listK (K := K) rfl (pv 3)) (pg_name (i := 6) sc_run.nd rfl (by first | exact Or.inl rfl | exact Or.inr rfl)) (pss_cons (ps_set (i := 4) sc_run.nd rfl (by first | exact Or.inl rfl | exact Or.inr rfl) (pe_kn d_next_of (hr.mono (by decide)) rfl (pa_cons (pv 0) (pa_cons (pv 1) (pa_cons (pv 4) (pa_cons (pv 6) pa_nil)))))) (pss_one (ps_expr (pe_bm PySem.F.plainAttrs_list PySem.F.slot_list_append PySem.F.type_list_append mt_append (pv 5) (pa_cons (pe_kn d_seen_of (hr.mono (by decide)) rfl (pa_cons (pv 0) (pa_cons (pv 1) (pa_cons (pv 4) pa_nil)))) pa_nil)))))) (pss_one (ps_ret (pv 5)))))), ?_⟩
  refine ⟨_, rfl, ?_⟩
  refine ⟨_, rfl, _, rfl, _, rfl, k, A, B, C, xs, n, h, s, m, pm, ta, tb, tc, ax, ra, rb, rc, rfl, hk, hM, hx, oM, st 0 (Nat.zero_le _), m7, hsz, s1000, fun p0 H1 g1 nr0 => ⟨(by show 1 ≤ sizeLine; decide), fun pt hpt => ?_⟩⟩
  have ptH : H pt = none := g1.none hpt
  have np : pt ≠ p0 := fun e => by obtain ⟨o, ho⟩ := nr0.row.some; rw [← e, hpt] at ho; cases ho
  have nx : ax ≠ pt := fun e => by obtain ⟨o, ho⟩ := hx.some; rw [e, ptH] at ho; cases ho
  have g2 := g1.trans (same_new hpt (.lst [.ref p0]))
  have lU := pd_len hU.2
  have G0 : Grow H (upd H1 pt (.lst [.ref p0])) ((runM k A B C xs U).take 1) [p0] := by
    rw [take_snoc (i := 0) (runM_get (Nat.zero_le _))]
    exact ⟨g2, .cons (nr0.row.mono (same_new hpt _)) .nil, fun r hr => by rw [List.mem_singleton.mp hr]; exact nr0.fa, by simp⟩
  refine ⟨_, rfl, tu, rfl, ⟨_, SqL.of (g2 _ _ hU.1)⟩, ?_⟩
  refine for_list (xs := ru.map V.ref) (fun i σ H4 => ∃ ah ras o6, σ = [some (.int k), some (.ref pm), some (.ref ax), some (.ref tu), some (.ref ah), some (.ref pt), o6] ∧ RowAt H4 (stM k A B xs (U.take i)) ah ∧ ah ≠ pt ∧ Grow H H4 ((runM k A B C xs U).take (i + 1)) ras ∧ H4 pt = some (.lst (ras.map V.ref)) ∧ pt ∉ ras) ⟨ax, [p0], none, rfl, hx.mono g2, nx, G0, upd_same, by simpa using np⟩ ?_ ?_ ?_
  · rintro i σ H4 _ ⟨ah, ras, o6, rfl, _, _, G, _⟩
    exact SqL.of (G.same _ _ hU.1)
  · rintro i v σ H4 hv ⟨ah, ras, o6, rfl, hah, nah, G, hpt4, npt4⟩
    obtain ⟨u, a, hu, ha, rfl, hrow⟩ := (hU.mono G.same).row hv
    have iU : i < U.length := (List.getElem?_eq_some_iff.mp hu).1
    have M4 := hM.mono G.same
    refine ⟨_, rfl, _, rfl, _, rfl, _, rfl, k, A, B, C, stM k A B xs (U.take i), u, n, h, s, m, pm, ta, tb, tc, ah, a, ra, rb, rc, rfl, hk, M4, hah, hrow, oM, st i (by omega), oU.row (List.mem_of_getElem? hu), m7, hsz, fun p5 H5 g5 nr5 => ?_⟩
    rw [← stM_snoc, ← take_snoc hu] at nr5
    refine ⟨_, rfl, .inl ⟨rfl, _, SqL.of (g5 _ _ hpt4)⟩, _, rfl, _, rfl, _, rfl, k, A, B, C, stM k A B xs (U.take (i + 1)), n, h, s, m, pm, ta, tb, tc, p5, ra, rb, rc, rfl, hk, M4.mono g5, nr5.row, oM, st (i + 1) (by omega), m7, hsz, s1000, fun p6 H6 g6 nr6 => ?_⟩
    have hpt6 := g6 _ _ (g5 _ _ hpt4)
    have e1 := pd_len G.rows
    rw [List.length_take, runM_len] at e1
    refine ⟨pt, _, _, rfl, rfl, hpt6, (by rw [List.length_map]; omega), ?_⟩
    obtain ⟨G2, nm2⟩ := G.pushR (zs' := (ras.map V.ref) ++ [.ref p6]) ptH hpt4 npt4 (g5.trans g6) (g5.none nr6.fa) nr6.row
    have n5 : p5 ≠ pt := fun e => by have := nr5.fa; rw [e, hpt4] at this; cases this
    refine ⟨p5, ras ++ [p6], _, rfl, (nr5.row.mono g6).upd n5 hpt6, n5, ?_, ?_, nm2⟩
    · rw [take_snoc (runM_get (by omega))]
      exact G2
    · rw [upd_same, List.map_append]; rfl
  · rintro σ H4 ⟨ah, ras, o6, rfl, hah, nah, G, hpt4, npt4⟩
    rw [List.length_map, List.take_of_length_le (by rw [runM_len]; omega)] at G
    exact ⟨_, rfl, q pt ras H4 G.same ⟨⟨hpt4, G.rows⟩, ptH, G.fr, G.nd, npt4⟩⟩
--SPLIT
theorem kit_of {K : PySem.W.Frag} {a b : String} {r : Bool} (h1 : ¬ (a = b)) (h2 : PySem.W.kitMeta b = true) (h3 : (PySem.fastBuiltinMro a).map (·.contains (Value.type b)) = some r) : PySem.W.kitOne K (.type a) (.type b) = some r := by
  unfold PySem.W.kitOne
  rw [if_neg (by intro e; exact h1 (Value.type.inj (by simpa using e)))]
  show (if PySem.W.kitMeta b = true then PySem.W.subIn K (.type a) (.type b) else none) = some r
  rw [if_pos h2]
  exact h3
theorem kit_ll (K : PySem.W.Frag) : PySem.W.kitOne K (.type "list") (.type "list") = some true := by unfold PySem.W.kitOne; rw [if_pos (by decide)]
theorem kit_tb (K : PySem.W.Frag) : PySem.W.kitOne K (.type "tuple") (.type "bool") = some false := kit_of (by decide) (by decide +kernel) (by decide +kernel)
theorem kit_it (K : PySem.W.Frag) : PySem.W.kitOne K (.type "int") (.type "tuple") = some false := kit_of (by decide) (by decide +kernel) (by decide +kernel)
theorem mulok_right {a b : Int} (h0 : -(2 ^ 64) < b) (h1 : b < 2 ^ 64) : IntMulOk a b := IntMulOk.of_right (intBits_le_64 h0 h1)
theorem mulok_left {a b : Int} (h0 : -(2 ^ 64) < a) (h1 : a < 2 ^ 64) : IntMulOk a b := IntMulOk.of_left (intBits_le_64 h0 h1)
theorem sm40 {x : Int} (h0 : -1000000000000 < x) (h1 : x < 1000000000000) : Sm 40 x := by
  unfold Sm
  have : (2 : Nat) ^ 40 = 1099511627776 := by decide
  omega
/-! _law_mix -/
def mixF (c j : Int) : Int := if (c.fmod 2 = 1 ∧ c / 2 ^ (27 : Int).toNat ≠ 0) then (c / 2 ^ (1 + 20 * j).toNat).fmod 1048576
  else ((((c * (2 * j + 3) + j).fmod 2147483629 * (c * (2 * j + 3) + j).fmod 2147483629 + 1) * 48271).fmod 2147483629 * (((c * (2 * j + 3) + j).fmod 2147483629 * (c * (2 * j + 3) + j).fmod 2147483629 + 1) * 48271).fmod 2147483629).fmod 2147483587
theorem mixF_bd (c j : Int) : 0 ≤ mixF c j ∧ mixF c j < 2147483648 := by
  unfold mixF
  split
  · have h0 := Int.fmod_nonneg_of_pos (c / 2 ^ (1 + 20 * j).toNat) (show (0 : Int) < 1048576 by decide)
    have h1 := Int.fmod_lt_of_pos (c / 2 ^ (1 + 20 * j).toNat) (show (0 : Int) < 1048576 by decide)
    omega
  · generalize (((c * (2 * j + 3) + j).fmod 2147483629 * (c * (2 * j + 3) + j).fmod 2147483629 + 1) * 48271).fmod 2147483629 = x
    have h0 := Int.fmod_nonneg_of_pos (x * x) (show (0 : Int) < 2147483587 by decide)
    have h1 := Int.fmod_lt_of_pos (x * x) (show (0 : Int) < 2147483587 by decide)
    omega
def sp_mix : Sp := fun vs H Q _ => ∃ (c j : Int), vs = [.int c, .int j] ∧ 0 ≤ j ∧ j ≤ 1000000 ∧ Q (.int (mixF c j)) H
theorem kn_mix (D : Df K mg "_law_mix" ["_law_cell", "_law_j"] s__law_mix) : Kn P w K mg base "_law_mix" 1 ["_law_cell", "_law_j"] sp_mix := by
  refine D.kn sc__law_mix (fun vs H Q E h => ?_) (fun f cdv A outer s H vs Q E hr h => ?_)
  · obtain ⟨c, j, rfl, _⟩ := h; rfl
  obtain ⟨c, j, rfl, j0, j1, q⟩ := h
  refine ⟨_, (pss_cons (ps_if (PW.pt (pw_and (pt_cmpR op_eq (pe_op op_modN (pv 0) pe_int) pe_int (nomark _)) (pw_and1 (pt_cmpR op_ne (pe_op op_shr (pv 0) pe_int) pe_int (nomark _))))) (pss_one (ps_ret (pe_op op_modN (pe_op op_shr (pv 0) (pe_op op_add pe_int (pe_op op_mulB pe_int (pv 1)))) pe_int))) pss_nil) (pss_cons (ps_set (i := 2) sc__law_mix.nd rfl (by first | exact Or.inl rfl | exact Or.inr rfl) (pe_op op_modN (pe_op op_add (pe_op op_mulB (pv 0) (pe_op op_add (pe_op op_mulB pe_int (pv 1)) pe_int)) (pv 1)) pe_int)) (pss_cons (ps_set (i := 2) sc__law_mix.nd rfl (by first | exact Or.inl rfl | exact Or.inr rfl) (pe_op op_modN (pe_op op_mulB (pe_op op_add (pe_op op_mulB (pv 2) (pv 2)) pe_int) pe_int) pe_int)) (pss_one (ps_ret (pe_op op_modN (pe_op op_mulB (pv 2) (pv 2)) pe_int)))))), ?_⟩
  have n1 : (2147483629 : Int) ≠ 0 := by decide
  have n2 : (2147483587 : Int) ≠ 0 := by decide
  have n3 : (1048576 : Int) ≠ 0 := by decide
  have a0 := Int.fmod_nonneg_of_pos (c * (2 * j + 3) + j) (show (0 : Int) < 2147483629 by decide)
  have a1 := Int.fmod_lt_of_pos (c * (2 * j + 3) + j) (show (0 : Int) < 2147483629 by decide)
  have b0 := Int.fmod_nonneg_of_pos (((c * (2 * j + 3) + j).fmod 2147483629 * (c * (2 * j + 3) + j).fmod 2147483629 + 1) * 48271) (show (0 : Int) < 2147483629 by decide)
  have b1 := Int.fmod_lt_of_pos (((c * (2 * j + 3) + j).fmod 2147483629 * (c * (2 * j + 3) + j).fmod 2147483629 + 1) * 48271) (show (0 : Int) < 2147483629 by decide)
  refine ⟨_, rfl, _, _, rfl, rfl, (by show (2 : Int) ≠ 0; decide), rfl, _, rfl, ?_⟩
  refine ite2 (fun c1 => ?_) (fun c1 => ?_)
  · have d1 : c.fmod 2 = 1 := V.int.inj (of_decide_eq_true c1)
    refine ⟨_, rfl, _, _, rfl, rfl, (by show (0 : Int) ≤ 27; decide), rfl, _, rfl, ?_⟩
    refine ite2 (fun c2 => ?_) (fun c2 => ?_)
    · have d2 : c / 2 ^ (27 : Int).toNat ≠ 0 := fun z => by
        have c2' : (!decide (V.int (c / 2 ^ (27 : Int).toNat) = V.int 0)) = true := c2
        rw [z] at c2'; exact absurd c2' (by decide)
      have e : mixF c j = (c / 2 ^ (1 + 20 * j).toNat).fmod 1048576 := by unfold mixF; rw [if_pos ⟨d1, d2⟩]
      rw [e] at q
      exact ⟨_, rfl, _, rfl, _, _, rfl, rfl, mulok_left (by decide) (by decide), _, _, rfl, rfl, _, _, rfl, rfl, (by omega), _, _, rfl, rfl, n3, q⟩
    · have d2 : ¬ (c.fmod 2 = 1 ∧ c / 2 ^ (27 : Int).toNat ≠ 0) := fun ⟨_, h⟩ => by
        have h' : ¬ V.int (c / 2 ^ (27 : Int).toNat) = V.int 0 := fun e => h (V.int.inj e)
        have c2' : ¬ (!decide (V.int (c / 2 ^ (27 : Int).toNat) = V.int 0)) = true := c2
        rw [decide_eq_false h'] at c2'
        exact c2' rfl
      unfold mixF at q
      rw [if_neg d2] at q
      exact ⟨_, rfl, _, rfl, _, _, rfl, rfl, mulok_left (by decide) (by decide), _, _, rfl, rfl, _, _, rfl, rfl, mulok_right (by omega) (by omega), _, rfl, _, _, rfl, rfl, _, _, rfl, rfl, n1, _, rfl, _, rfl, _, _, rfl, rfl, mulok_left (by omega) (by omega), _, _, rfl, rfl, _, _, rfl, rfl, mulok_right (by decide) (by decide), _, _, rfl, rfl, n1, _, rfl, _, rfl, _, _, rfl, rfl, mulok_left (by omega) (by omega), _, _, rfl, rfl, n2, q⟩
  · have d2 : ¬ (c.fmod 2 = 1 ∧ c / 2 ^ (27 : Int).toNat ≠ 0) := fun ⟨h, _⟩ => c1 (show decide (V.int (c.fmod 2) = V.int 1) = true by rw [h]; decide)
    unfold mixF at q
    rw [if_neg d2] at q
    refine iteF ?_
    exact ⟨_, rfl, _, rfl, _, _, rfl, rfl, mulok_left (by decide) (by decide), _, _, rfl, rfl, _, _, rfl, rfl, mulok_right (by omega) (by omega), _, rfl, _, _, rfl, rfl, _, _, rfl, rfl, n1, _, rfl, _, rfl, _, _, rfl, rfl, mulok_left (by omega) (by omega), _, _, rfl, rfl, _, _, rfl, rfl, mulok_right (by decide) (by decide), _, _, rfl, rfl, n1, _, rfl, _, rfl, _, _, rfl, rfl, mulok_left (by omega) (by omega), _, _, rfl, rfl, n2, q⟩
/-! _law_lowest -/
def sp_lowest : Sp := fun vs H Q _ => ∃ (t b : Int), vs = [.int t, .int b] ∧ 0 < b ∧ ∀ p H', Same H H' → H' p = some (.tup [.int (Rat.divInt t b).num, .int ((Rat.divInt t b).den : Int)]) → Q (.ref p) H'
theorem kn_lowest (hP : P.given.tree = none) (hS : base.NoSeer) (D : Df K mg "_law_lowest" ["_law_top", "_law_bottom"] s__law_lowest) (d__law_divisor : Kn P w K mg base "_law_divisor" 1 ["_law_one", "_law_other"] sp_cd) : Kn P w K mg base "_law_lowest" 41 ["_law_top", "_law_bottom"] sp_lowest := by
  refine D.kn sc__law_lowest (fun vs H Q E h => ?_) (fun f cdv A outer s H vs Q E hr h => ?_)
  · obtain ⟨t, b, rfl, _⟩ := h; rfl
  obtain ⟨t, b, rfl, b0, q⟩ := h
  refine ⟨_, (pss_cons (ps_set (i := 2) sc__law_lowest.nd rfl (by first | exact Or.inl rfl | exact Or.inr rfl) (pe_kn d__law_divisor (hr.mono (by decide)) rfl (pa_cons (pv 0) (pa_cons (pv 1) pa_nil)))) (pss_one (ps_ret (pe_tup (pa_cons (pe_op (op_fdivU hr (by decide) hP hS ⟨_, _, rfl, rfl, rfl, rfl, rfl⟩) (pv 0) (pv 2)) (pa_cons (pe_op (op_fdivU hr (by decide) hP hS ⟨_, _, rfl, rfl, rfl, rfl, rfl⟩) (pv 1) (pv 2)) pa_nil)))))), ?_⟩
  have e : sg t b = ((Int.gcd t b : Nat) : Int) := by unfold sg; rw [if_neg (by omega)]
  have ne : ((Int.gcd t b : Nat) : Int) ≠ 0 := by rw [← e]; exact sg_ne (by omega)
  obtain ⟨e1, e2⟩ := frac_num (t := t) (b := b) (by omega)
  rw [e] at e1 e2
  refine ⟨_, rfl, _, rfl, t, b, rfl, _, rfl, _, rfl, _, _, rfl, rfl, ne, _, rfl, _, rfl, _, _, rfl, rfl, ne, (by show 2 ≤ sizeLine; decide), fun p hp => ?_⟩
  show Q (.ref p) (upd H p (.tup [.int (t.fdiv ((Int.gcd t b : Nat) : Int)), .int (b.fdiv ((Int.gcd t b : Nat) : Int))]))
  rw [e1, e2]
  exact q p _ (same_new hp _) upd_same
/-! _law_number (k11), by its draw -/
def numF (k d : Int) : Nb := if 0 < k then .z ((d.fdiv 4).fmod k * (if decide (0 < d.fmod 4) = true then 1 else 0)) else if d.fmod 8 = 1 then .q (Rat.divInt ((d.fdiv 8).fmod 19999 - 9999) (1 + (d.fdiv 160000).fmod 6)) else .q (Rat.divInt (((d.fdiv 8).fmod 13 - 6) * (if decide (0 < d.fmod 8) = true then 1 else 0)) (1 + (d.fdiv 104).fmod 6))
abbrev nz : Nat := 14
abbrev mMost : Nat := 5
theorem mMost0 : 0 < mMost := by decide
theorem mMost64 : mMost ≤ 64 := by decide
theorem sm14 {x : Int} (h0 : -10000 < x) (h1 : x < 10000) : Sm 14 x := by
  unfold Sm
  have : (2 : Nat) ^ 14 = 16384 := by decide
  omega
theorem bit_mul {x : Int} (c : Bool) (h0 : -10000 < x) (h1 : x < 10000) : -10000 < x * (if c = true then 1 else 0) ∧ x * (if c = true then 1 else 0) < 10000 := by
  cases c
  · simp
  · simp; omega
theorem numF_ok {k : Int} (hk : KindOk k) (d : Int) : (numF k d).ok k ∧ nsm nz (numF k d) := by
  have kl := hk.lt
  unfold numF
  split
  · rename_i k0
    have h0 := Int.fmod_nonneg_of_pos (d.fdiv 4) k0
    have h1 := Int.fmod_lt_of_pos (d.fdiv 4) k0
    cases decide (0 < d.fmod 4) with
    | true => simp only [if_true, Int.mul_one]; exact ⟨⟨by omega, h0, h1⟩, sm14 (by omega) (by omega)⟩
    | false => simp only [Bool.false_eq_true, if_false, Int.mul_zero]; exact ⟨⟨by omega, by omega, by omega⟩, sm14 (by omega) (by omega)⟩
  · split
    · have b0 := Int.fmod_nonneg_of_pos (d.fdiv 160000) (show (0 : Int) < 6 by decide)
      have b1 := Int.fmod_lt_of_pos (d.fdiv 160000) (show (0 : Int) < 6 by decide)
      have t0 := Int.fmod_nonneg_of_pos (d.fdiv 8) (show (0 : Int) < 19999 by decide)
      have t1 := Int.fmod_lt_of_pos (d.fdiv 8) (show (0 : Int) < 19999 by decide)
      refine ⟨by show k = 0; omega, ?_⟩
      exact divInt_sm (by omega) (sm14 (by omega) (by omega)) (sm14 (by omega) (by omega))
    · have b0 := Int.fmod_nonneg_of_pos (d.fdiv 104) (show (0 : Int) < 6 by decide)
      have b1 := Int.fmod_lt_of_pos (d.fdiv 104) (show (0 : Int) < 6 by decide)
      have t0 := Int.fmod_nonneg_of_pos (d.fdiv 8) (show (0 : Int) < 13 by decide)
      have t1 := Int.fmod_lt_of_pos (d.fdiv 8) (show (0 : Int) < 13 by decide)
      have tb := bit_mul (x := (d.fdiv 8).fmod 13 - 6) (decide (0 < d.fmod 8)) (by omega) (by omega)
      refine ⟨by show k = 0; omega, ?_⟩
      exact divInt_sm (by omega) (sm14 tb.1 tb.2) (sm14 (by omega) (by omega))
def sp_lnumber : Sp := fun vs H Q _ => ∃ (k d : Int), vs = [.int k, .int d] ∧ KindOk k ∧ ∀ v H', Same H H' → RN H' (numF k d) v → Q v H'
theorem kn_lnumber (hP : P.given.tree = none) (hS : base.NoSeer) (D : Df K mg "_law_number" ["_law_kind_here", "_law_drawn"] s__law_number) (d__law_lowest : Kn P w K mg base "_law_lowest" 41 ["_law_top", "_law_bottom"] sp_lowest) (m_int : mg "int" = none) : Kn P w K mg base "_law_number" 42 ["_law_kind_here", "_law_drawn"] sp_lnumber := by
  refine D.kn sc__law_number (fun vs H Q E h => ?_) (fun f cdv A outer s H vs Q E hr h => ?_)
  · obtain ⟨k, d, rfl, _⟩ := h; rfl
  obtain ⟨k, d, rfl, hk, q⟩ := h
  have kl := hk.lt
  refine ⟨_, (pss_cons (ps_if (pt_cmpR op_gt (pv 0) pe_int (nomark _)) (pss_one (ps_ret (pe_op op_mulB (pe_op op_modN (pe_op (op_fdivU hr (by decide) hP hS ⟨_, _, rfl, rfl, rfl, rfl, rfl⟩) (pv 1) pe_int) (pv 0)) (pe_callTy call_int1 rfl m_int bb_int (pa_cons (pe_cmpR op_gt (pe_op op_modN (pv 1) pe_int) pe_int (nomark _)) pa_nil))))) pss_nil) (pss_cons (ps_if (pt_cmpR op_eq (pe_op op_modN (pv 1) pe_int) pe_int (nomark _)) (pss_one (ps_ret (pe_kn d__law_lowest (hr.mono (by decide)) rfl (pa_cons (pe_op op_sub (pe_op op_modN (pe_op (op_fdivU hr (by decide) hP hS ⟨_, _, rfl, rfl, rfl, rfl, rfl⟩) (pv 1) pe_int) pe_int) pe_int) (pa_cons (pe_op op_add pe_int (pe_op op_modN (pe_op (op_fdivU hr (by decide) hP hS ⟨_, _, rfl, rfl, rfl, rfl, rfl⟩) (pv 1) pe_int) pe_int)) pa_nil))))) pss_nil) (pss_one (ps_ret (pe_kn d__law_lowest (hr.mono (by decide)) rfl (pa_cons (pe_op op_mulB (pe_op op_sub (pe_op op_modN (pe_op (op_fdivU hr (by decide) hP hS ⟨_, _, rfl, rfl, rfl, rfl, rfl⟩) (pv 1) pe_int) pe_int) pe_int) (pe_callTy call_int1 rfl m_int bb_int (pa_cons (pe_cmpR op_gt (pe_op op_modN (pv 1) pe_int) pe_int (nomark _)) pa_nil))) (pa_cons (pe_op op_add pe_int (pe_op op_modN (pe_op (op_fdivU hr (by decide) hP hS ⟨_, _, rfl, rfl, rfl, rfl, rfl⟩) (pv 1) pe_int) pe_int)) pa_nil))))))), ?_⟩
  have n4 : (4 : Int) ≠ 0 := by decide
  have n8 : (8 : Int) ≠ 0 := by decide
  unfold numF at q
  refine ⟨_, rfl, _, _, rfl, rfl, _, rfl, ?_⟩
  refine ite2 (fun ck => ?_) (fun ck => ?_)
  · have k0 : 0 < k := of_decide_eq_true ck
    rw [if_pos k0] at q
    exact ⟨_, rfl, _, _, rfl, rfl, n4, _, rfl, _, _, rfl, rfl, (show k ≠ 0 by omega), _, rfl, _, _, rfl, rfl, n4, _, _, rfl, rfl, .inr ⟨_, rfl, _, _, rfl, rfl, mulok_small (Int.fmod_nonneg_of_pos (d.fdiv 4) k0) (by have := Int.fmod_lt_of_pos (d.fdiv 4) k0; omega), q _ H (Same.refl H) RN.of_z⟩⟩
  · have k0 : ¬ 0 < k := of_decide_eq_false (Bool.eq_false_iff.mpr ck)
    rw [if_neg k0] at q
    refine ⟨_, rfl, _, _, rfl, rfl, n8, rfl, _, rfl, ?_⟩
    refine ite2 (fun c8 => ?_) (fun c8 => ?_)
    · have c8' : d.fmod 8 = 1 := V.int.inj (of_decide_eq_true c8)
      rw [if_pos c8'] at q
      have b0 := Int.fmod_nonneg_of_pos (d.fdiv 160000) (show (0 : Int) < 6 by decide)
      exact ⟨_, rfl, _, _, rfl, rfl, n8, _, _, rfl, rfl, (by show (19999 : Int) ≠ 0; decide), _, _, rfl, rfl, _, rfl, _, _, rfl, rfl, (by show (160000 : Int) ≠ 0; decide), _, _, rfl, rfl, (by show (6 : Int) ≠ 0; decide), _, _, rfl, rfl, _, _, rfl, (by omega), fun p H' g hp => q _ H' g (RN.of_q hp)⟩
    · have c8' : ¬ d.fmod 8 = 1 := fun e => c8 (by show decide (V.int (d.fmod 8) = V.int 1) = true; rw [e]; decide)
      rw [if_neg c8'] at q
      have b0 := Int.fmod_nonneg_of_pos (d.fdiv 104) (show (0 : Int) < 6 by decide)
      have t0 := Int.fmod_nonneg_of_pos (d.fdiv 8) (show (0 : Int) < 13 by decide)
      have t1 := Int.fmod_lt_of_pos (d.fdiv 8) (show (0 : Int) < 13 by decide)
      exact ⟨_, rfl, _, _, rfl, rfl, n8, _, _, rfl, rfl, (by show (13 : Int) ≠ 0; decide), _, _, rfl, rfl, _, rfl, _, _, rfl, rfl, n8, _, _, rfl, rfl, .inr ⟨_, rfl, _, _, rfl, rfl, mulok_left (by omega) (by omega), _, rfl, _, _, rfl, rfl, (by show (104 : Int) ≠ 0; decide), _, _, rfl, rfl, (by show (6 : Int) ≠ 0; decide), _, _, rfl, rfl, _, _, rfl, (by omega), fun p H' g hp => q _ H' g (RN.of_q hp)⟩⟩
/-! _law_table, by its cell: numF, numF_ok, nz are the law's own -/
def rowF (k c : Int) (cols : Nat) (far : Int) (i : Nat) : List Nb := (List.range cols).map fun (j : Nat) => numF k (mixF c (far + (cols : Int) * (i : Int) + (j : Int)))
def tabF (k c : Int) (rows cols : Nat) (far : Int) : List (List Nb) := (List.range rows).map (rowF k c cols far)
theorem rowF_rok {k : Int} (hk : KindOk k) (c : Int) (cols : Nat) (far : Int) (i : Nat) : ROk k cols nz (rowF k c cols far i) := by
  refine ⟨by unfold rowF; simp, fun x hx => ?_, fun x hx => ?_⟩
  all_goals
    unfold rowF at hx
    obtain ⟨j, _, rfl⟩ := List.mem_map.mp hx
  · exact (numF_ok hk _).1
  · exact (numF_ok hk _).2
theorem tabF_tok {k : Int} (hk : KindOk k) (c : Int) (rows cols : Nat) (far : Int) : TOk k rows cols nz (tabF k c rows cols far) := by
  have row : ∀ r ∈ tabF k c rows cols far, ROk k cols nz r := fun r hr => by
    unfold tabF at hr
    obtain ⟨i, _, rfl⟩ := List.mem_map.mp hr
    exact rowF_rok hk c cols far i
  exact ⟨by unfold tabF; simp, fun r hr => ⟨(row r hr).len, (row r hr).ok⟩, fun r hr => (row r hr).sz⟩
def sp_ltable : Sp := fun vs H Q _ => ∃ (k c : Int) (r n : Nat) (f : Int), vs = [.int k, .int c, .int r, .int n, .int f] ∧ KindOk k ∧ r ≤ 64 ∧ n ≤ 64 ∧ 0 ≤ f ∧ f ≤ 1000 ∧
  ∀ t ras H', Same H H' → NewT H H' (tabF k c r n f) t ras → Q (.ref t) H'
theorem kn_ltable (D : Df K mg "_law_table" ["_law_kind_here", "_law_cell", "_law_rows", "_law_columns", "_law_far"] s__law_table) (d__law_number : Kn P w K mg base "_law_number" 42 ["_law_kind_here", "_law_drawn"] sp_lnumber) (d__law_mix : Kn P w K mg base "_law_mix" 1 ["_law_cell", "_law_j"] sp_mix) (m_range : mg "range" = none) : Kn P w K mg base "_law_table" 43 ["_law_kind_here", "_law_cell", "_law_rows", "_law_columns", "_law_far"] sp_ltable := by
  refine D.kn sc__law_table (fun vs H Q E h => ?_) (fun f cdv A outer s H vs Q E hr h => ?_)
  · obtain ⟨k, c, r, n, f, rfl, _⟩ := h; rfl
  obtain ⟨k, c, r, n, f, rfl, hk, hr64, hn64, f0, f1, q⟩ := h
  refine ⟨_, (pss_cons (ps_set (i := 5) sc__law_table.nd rfl (by first | exact Or.inl rfl | exact Or.inr rfl) (pe_lst pa_nil)) (pss_cons (ps_for PassesOwn.never rfl (pi_range1 rfl m_range (pa_cons (pv 2) pa_nil)) (pg_name (i := 6) sc__law_table.nd rfl (by first | exact Or.inl rfl | exact Or.inr rfl)) (pss_one (ps_expr (pe_bm PySem.F.plainAttrs_list PySem.F.slot_list_append PySem.F.type_list_append mt_append (pv 5) (pa_cons (pe_comp ["_law_j"] ["_law_kind_here", "_law_cell", "_law_far", "_law_columns", "_law_i"] [0, 1, 4, 3, 6] ⟨rfl, rfl, rfl, rfl, rfl, rfl, by decide +kernel⟩ rfl (pi_range1 rfl m_range (pa_cons (pv 3) pa_nil)) (gown_name (by decide)) fun _ _ _ _ _ _ => ⟨(pg_name (i := 0) (by decide : (["_law_j", "_law_kind_here", "_law_cell", "_law_far", "_law_columns", "_law_i"] : List Str).Nodup) rfl (by first | exact Or.inl rfl | exact Or.inr rfl)), pts_nil, (pe_kn d__law_number (hr.mono (by decide)) rfl (pa_cons (pv 1) (pa_cons (pe_kn d__law_mix (hr.mono (by decide)) rfl (pa_cons (pv 2) (pa_cons (pe_op op_add (pe_op op_add (pv 3) (pe_op op_mulB (pv 4) (pv 5))) (pv 0)) pa_nil))) pa_nil)))⟩) pa_nil))))) (pss_one (ps_ret (pv 5))))), ?_⟩
  have szl : sizeLine = 16777216 := by decide
  have lT := (tabF_tok hk c r n f).len
  refine ⟨(by show 0 ≤ sizeLine; decide), fun pt hpt => ?_⟩
  refine ⟨_, rfl, r, rfl, (by omega), (by omega), ?_⟩
  rw [Int.toNat_natCast]
  refine for_range (lo := 0) (n := r) (fun i σ H4 => ∃ ras o6, σ = [some (.int k), some (.int c), some (.int r), some (.int n), some (.int f), some (.ref pt), o6] ∧ Grow H H4 ((tabF k c r n f).take i) ras ∧ H4 pt = some (.lst (ras.map V.ref)) ∧ pt ∉ ras) ⟨[], none, rfl, Grow.nil H (same_new hpt _), upd_same, by simp⟩ ?_ ?_
  · rintro i σ H4 hi ⟨ras, o6, rfl, G, hpt4, npt4⟩
    refine ⟨_, rfl, .inl ⟨rfl, _, SqL.of hpt4⟩, _, rfl, n, rfl, (by omega), (by omega), ?_⟩
    rw [Int.toNat_natCast]
    have ci0 : 0 ≤ (n : Int) * (0 + (i : Int)) := Int.mul_nonneg (by omega) (by omega)
    have ci1 : (n : Int) * (0 + (i : Int)) ≤ 64 * 64 := Int.mul_le_mul (by omega) (by omega) (by omega) (by omega)
    refine comp_range (lo := 0) (n := n) (fun j ys' H6 => Same H4 H6 ∧ Paired (RN H6) ((rowF k c n f i).take j) ys') ⟨Same.refl _, .nil⟩ ?_ ?_ ?_
    · rintro j ys' H6 hj ⟨g6, pr6⟩
      have := pd_len pr6
      rw [List.length_take] at this
      omega
    · rintro j ys' H6 hj ⟨g6, pr6⟩
      first | refine gyes ?_ | refine tyes ?_
      refine ⟨_, rfl, _, rfl, _, rfl, _, rfl, _, rfl, _, _, rfl, rfl, mulok_left (by omega) (by omega), _, _, rfl, rfl, _, rfl, _, _, rfl, rfl, c, _, rfl, (by omega), (by omega), ?_⟩
      refine ⟨k, _, rfl, hk, fun v H7 g7 xr => ?_⟩
      refine nxt hj ⟨g6.trans g7, ?_⟩
      have e : (rowF k c n f i)[j]? = some (numF k (mixF c (f + (n : Int) * (0 + (i : Int)) + (0 + (j : Int))))) := by
        unfold rowF
        rw [List.getElem?_map, List.getElem?_range hj, Int.zero_add, Int.zero_add]; rfl
      rw [take_snoc e]
      exact pd_snoc (pd_rn g7 pr6) xr
    · rintro ys' H6 ⟨g6, pr6⟩ pn hpn
      rw [List.take_of_length_le (by rw [(rowF_rok hk c n f i).len]; omega)] at pr6
      have npn : pt ≠ pn := fun e => by rw [← e, g6 _ _ hpt4] at hpn; cases hpn
      refine ⟨pt, _, _, rfl, rfl, (by rw [upd_ne npn]; exact g6 _ _ hpt4), ?_, ?_⟩
      · have := pd_len G.rows
        rw [List.length_take] at this
        rw [List.length_map]; omega
      obtain ⟨G2, nm2⟩ := G.push (zs' := (ras.map V.ref) ++ [.ref pn]) hpt hpt4 npt4 g6 hpn pr6
      have e : (tabF k c r n f)[i]? = some (rowF k c n f i) := by unfold tabF; rw [List.getElem?_map, List.getElem?_range hi]; rfl
      refine ⟨ras ++ [pn], _, rfl, by rw [take_snoc e]; exact G2, ?_, nm2⟩
      rw [upd_same, List.map_append]; rfl
  · rintro σ H4 ⟨ras, o6, rfl, G, hpt4, npt4⟩
    rw [List.take_of_length_le (by omega)] at G
    exact ⟨_, rfl, q pt ras H4 G.same ⟨⟨hpt4, G.rows⟩, hpt, G.fr, G.nd, npt4⟩⟩
/-! _law_machine -/
def drawN (c j : Int) (m : Nat) : Nat := (1 + (mixF c j).fmod (m : Int)).toNat
theorem drawN_bd (c j : Int) {m : Nat} (hm : 0 < m) : 1 ≤ drawN c j m ∧ drawN c j m ≤ m ∧ ((drawN c j m : Nat) : Int) = 1 + (mixF c j).fmod (m : Int) := by
  have h0 := Int.fmod_nonneg_of_pos (mixF c j) (show (0 : Int) < (m : Int) by omega)
  have h1 := Int.fmod_lt_of_pos (mixF c j) (show (0 : Int) < (m : Int) by omega)
  unfold drawN
  omega
def mN (c : Int) : Nat := drawN c 2 mMost
def mH (c : Int) : Nat := drawN c 3 3
def mS (c : Int) : Nat := drawN c 4 3
def mA (k c : Int) : List (List Nb) := tabF k c (mN c) (mN c) 10
def mB (k c : Int) : List (List Nb) := tabF k c (mN c) (mH c) 35
def mC (k c : Int) : List (List Nb) := tabF k c (mS c) (mN c) 50
theorem m_mok {k : Int} (hk : KindOk k) (c : Int) : MOk k (mN c) (mH c) (mS c) nz (mA k c) (mB k c) (mC k c) := ⟨tabF_tok hk c _ _ _, tabF_tok hk c _ _ _, tabF_tok hk c _ _ _⟩
theorem m_bd (c : Int) : 1 ≤ mN c ∧ mN c ≤ mMost ∧ 1 ≤ mH c ∧ mH c ≤ 3 ∧ 1 ≤ mS c ∧ mS c ≤ 3 := ⟨(drawN_bd c 2 mMost0).1, (drawN_bd c 2 mMost0).2.1, (drawN_bd c 3 (by decide)).1, (drawN_bd c 3 (by decide)).2.1, (drawN_bd c 4 (by decide)).1, (drawN_bd c 4 (by decide)).2.1⟩
def sp_lmach : Sp := fun vs H Q _ => ∃ (k c : Int), vs = [.int k, .int c] ∧ KindOk k ∧ ∀ p ta tb tc ra rb rc H', Same H H' → MachAt H' (mA k c) (mB k c) (mC k c) p ta tb tc ra rb rc → Q (.ref p) H'
theorem kn_lmach (D : Df K mg "_law_machine" ["_law_kind_here", "_law_cell"] s__law_machine) (d__law_mix : Kn P w K mg base "_law_mix" 1 ["_law_cell", "_law_j"] sp_mix) (d__law_table : Kn P w K mg base "_law_table" 43 ["_law_kind_here", "_law_cell", "_law_rows", "_law_columns", "_law_far"] sp_ltable) : Kn P w K mg base "_law_machine" 44 ["_law_kind_here", "_law_cell"] sp_lmach := by
  refine D.kn sc__law_machine (fun vs H Q E h => ?_) (fun f cdv A outer s H vs Q E hr h => ?_)
  · obtain ⟨k, c, rfl, _⟩ := h; rfl
  obtain ⟨k, c, rfl, hk, q⟩ := h
  refine ⟨_, (pss_cons (ps_set (i := 2) sc__law_machine.nd rfl (by first | exact Or.inl rfl | exact Or.inr rfl) (pe_op op_add pe_int (pe_op op_modN (pe_kn d__law_mix (hr.mono (by decide)) rfl (pa_cons (pv 1) (pa_cons pe_int pa_nil))) pe_int))) (pss_cons (ps_set (i := 3) sc__law_machine.nd rfl (by first | exact Or.inl rfl | exact Or.inr rfl) (pe_op op_add pe_int (pe_op op_modN (pe_kn d__law_mix (hr.mono (by decide)) rfl (pa_cons (pv 1) (pa_cons pe_int pa_nil))) pe_int))) (pss_cons (ps_set (i := 4) sc__law_machine.nd rfl (by first | exact Or.inl rfl | exact Or.inr rfl) (pe_op op_add pe_int (pe_op op_modN (pe_kn d__law_mix (hr.mono (by decide)) rfl (pa_cons (pv 1) (pa_cons pe_int pa_nil))) pe_int))) (pss_cons (ps_set (i := 5) sc__law_machine.nd rfl (by first | exact Or.inl rfl | exact Or.inr rfl) (pe_kn d__law_table (hr.mono (by decide)) rfl (pa_cons (pv 0) (pa_cons (pv 1) (pa_cons (pv 2) (pa_cons (pv 2) (pa_cons pe_int pa_nil))))))) (pss_one (ps_ret (pe_tup (pa_cons (pv 5) (pa_cons (pe_kn d__law_table (hr.mono (by decide)) rfl (pa_cons (pv 0) (pa_cons (pv 1) (pa_cons (pv 2) (pa_cons (pv 3) (pa_cons pe_int pa_nil)))))) (pa_cons (pe_kn d__law_table (hr.mono (by decide)) rfl (pa_cons (pv 0) (pa_cons (pv 1) (pa_cons (pv 4) (pa_cons (pv 2) (pa_cons pe_int pa_nil)))))) pa_nil)))))))))), ?_⟩
  obtain ⟨n1, n2, n3⟩ := drawN_bd c 2 mMost0
  obtain ⟨h1, h2, h3⟩ := drawN_bd c 3 (m := 3) (by decide)
  obtain ⟨s1, s2, s3⟩ := drawN_bd c 4 (m := 3) (by decide)
  have mm := mMost64
  refine ⟨_, rfl, c, 2, rfl, (by decide), (by decide), _, _, rfl, rfl, (by show ((mMost : Nat) : Int) ≠ 0; decide), _, _, rfl, rfl, ?_⟩
  refine ⟨_, rfl, c, 3, rfl, (by decide), (by decide), _, _, rfl, rfl, (by show (3 : Int) ≠ 0; decide), _, _, rfl, rfl, ?_⟩
  refine ⟨_, rfl, c, 4, rfl, (by decide), (by decide), _, _, rfl, rfl, (by show (3 : Int) ≠ 0; decide), _, _, rfl, rfl, ?_⟩
  refine ⟨_, rfl, _, rfl, _, rfl, _, rfl, k, c, mN c, mN c, 10, ?_, hk, (by unfold mN; omega), (by unfold mN; omega), (by decide), (by decide), fun ta ra H1 g1 na => ?_⟩
  · show [V.int k, V.int c, V.int (1 + (mixF c 2).fmod (mMost : Int)), V.int (1 + (mixF c 2).fmod (mMost : Int)), V.int 10] = _
    rw [← n3]; rfl
  refine ⟨_, rfl, _, rfl, _, rfl, _, rfl, _, rfl, k, c, mN c, mH c, 35, ?_, hk, (by unfold mN; omega), (by unfold mH; omega), (by decide), (by decide), fun tb rb H2 g2 nb => ?_⟩
  · show [V.int k, V.int c, V.int (1 + (mixF c 2).fmod (mMost : Int)), V.int (1 + (mixF c 3).fmod ((3 : Nat) : Int)), V.int 35] = _
    rw [← n3, ← h3]; rfl
  refine ⟨_, rfl, _, rfl, _, rfl, _, rfl, k, c, mS c, mN c, 50, ?_, hk, (by unfold mS; omega), (by unfold mN; omega), (by decide), (by decide), fun tc rc H3 g3 nc => ?_⟩
  · show [V.int k, V.int c, V.int (1 + (mixF c 4).fmod ((3 : Nat) : Int)), V.int (1 + (mixF c 2).fmod (mMost : Int)), V.int 50] = _
    rw [← n3, ← s3]; rfl
  refine ⟨(by show 3 ≤ sizeLine; decide), fun p hp => ?_⟩
  have g4 := same_new hp (.tup [.ref ta, .ref tb, .ref tc])
  exact q p ta tb tc ra rb rc _ (((g1.trans g2).trans g3).trans g4) ⟨upd_same, ((na.tab.mono g2).mono g3).mono g4, (nb.tab.mono g3).mono g4, nc.tab.mono g4⟩
/-! _law_sum -/
def sp_lsum : Sp := fun vs H Q _ => ∃ (k : Int) (xs ys : List Nb) (a b : Addr), vs = [.int k, .ref a, .ref b] ∧ KindOk k ∧ RowAt H xs a ∧ RowAt H ys b ∧ La.OkR k xs ∧ La.OkR k ys ∧ xs.length = ys.length ∧ xs.length ≤ 64 ∧ (∀ x ∈ xs, nsm 100000 x) ∧ (∀ y ∈ ys, nsm 100000 y) ∧
  ∀ v H', Same H H' → RN H' (La.ndot k xs ys) v → Q v H'
theorem rat_den (r : Rat) : r * ((r.den : Int) : Rat) = ((r.num : Int) : Rat) := La.kfRat.rat r rfl
theorem rat_step (r x y : Rat) : Rat.divInt (r.num * x.den * y.den + x.num * y.num * r.den) (r.den * x.den * y.den) = r + x * y := by
  rw [Rat.divInt_eq_div]
  have h1 := rat_den r
  have h2 := rat_den x
  have h3 := rat_den y
  have n1 : ((r.den : Int) : Rat) ≠ 0 := fun z => den_ne r (Rat.intCast_eq_zero_iff.mp z)
  have n2 : ((x.den : Int) : Rat) ≠ 0 := fun z => den_ne x (Rat.intCast_eq_zero_iff.mp z)
  have n3 : ((y.den : Int) : Rat) ≠ 0 := fun z => den_ne y (Rat.intCast_eq_zero_iff.mp z)
  rw [Rat.intCast_add, Rat.intCast_mul, Rat.intCast_mul, Rat.intCast_mul, Rat.intCast_mul, Rat.intCast_mul, Rat.intCast_mul]
  generalize ((r.den : Int) : Rat) = a at *
  generalize ((x.den : Int) : Rat) = b at *
  generalize ((y.den : Int) : Rat) = c at *
  generalize ((r.num : Int) : Rat) = a' at *
  generalize ((x.num : Int) : Rat) = b' at *
  generalize ((y.num : Int) : Rat) = c' at *
  grind
theorem kn_lsum (D : Df K mg "_law_sum" ["_law_kind_here", "_law_one", "_law_other"] s__law_sum) (d__law_lowest : Kn P w K mg base "_law_lowest" 41 ["_law_top", "_law_bottom"] sp_lowest) (m_sum : mg "sum" = none) (m_zip : mg "zip" = none) : Kn P w K mg base "_law_sum" 42 ["_law_kind_here", "_law_one", "_law_other"] sp_lsum := by
  refine D.kn sc__law_sum (fun vs H Q E h => ?_) (fun f cdv A outer s H vs Q E hr h => ?_)
  · obtain ⟨k, xs, ys, a, b, rfl, _⟩ := h; rfl
  obtain ⟨k, xs, ys, a, b, rfl, hk, ra, rb, ox, oy, hl, h64, sx, sy, q⟩ := h
  have kl := hk.lt
  have szl : sizeLine = 16777216 := by decide
  refine ⟨_, (pss_cons (ps_if (pt_cmpR op_gt (pv 0) pe_int (nomark _)) (pss_one (ps_ret (pe_op op_modN (pe_callB (call_sumK (K := K) rfl rfl) rfl m_sum bb_sum (pa_cons (pe_comp ["_law_x", "_law_y"] [] [] ⟨rfl, rfl, rfl, rfl, rfl, rfl, by decide +kernel⟩ rfl (pi_zipK (K := K) rfl rfl m_zip (pa_cons (pv 1) (pa_cons (pv 2) pa_nil))) (gown_tup (gowns_cons (gown_name (by decide)) gmono_name (gowns_cons (gown_name (by decide)) gmono_name gowns_nil))) fun _ _ _ _ _ _ => ⟨(pg_tupK (K := K) 2 rfl rfl (pgs_cons (pg_name (i := 0) (by decide : (["_law_x", "_law_y"] : List Str).Nodup) rfl (by first | exact Or.inl rfl | exact Or.inr rfl)) (pgs_cons (pg_name (i := 1) (by decide : (["_law_x", "_law_y"] : List Str).Nodup) rfl (by first | exact Or.inl rfl | exact Or.inr rfl)) pgs_nil))), pts_nil, (pe_op op_mulB (pv 0) (pv 1))⟩) pa_nil)) (pv 0)))) pss_nil) (pss_cons (ps_set (i := 3) sc__law_sum.nd rfl (by first | exact Or.inl rfl | exact Or.inr rfl) pe_int) (pss_cons (ps_set (i := 4) sc__law_sum.nd rfl (by first | exact Or.inl rfl | exact Or.inr rfl) pe_int) (pss_cons (ps_for PassesOwn.never rfl (pi_zipK (K := K) rfl rfl m_zip (pa_cons (pv 1) (pa_cons (pv 2) pa_nil))) (pg_tupK (K := K) 2 rfl rfl (pgs_cons (pg_name (i := 5) sc__law_sum.nd rfl (by first | exact Or.inl rfl | exact Or.inr rfl)) (pgs_cons (pg_name (i := 6) sc__law_sum.nd rfl (by first | exact Or.inl rfl | exact Or.inr rfl)) pgs_nil))) (pss_one (ps_asg (pe_kn d__law_lowest (hr.mono (by decide)) rfl (pa_cons (pe_op op_add (pe_op op_mulB (pe_op op_mulB (pv 3) (pe_ix (ix_tupK (K := K) rfl) (pv 5) pe_int (fun _ _ => rfl))) (pe_ix (ix_tupK (K := K) rfl) (pv 6) pe_int (fun _ _ => rfl))) (pe_op op_mulB (pe_op op_mulB (pe_ix (ix_tupK (K := K) rfl) (pv 5) pe_int (fun _ _ => rfl)) (pe_ix (ix_tupK (K := K) rfl) (pv 6) pe_int (fun _ _ => rfl))) (pv 4))) (pa_cons (pe_op op_mulB (pe_op op_mulB (pv 4) (pe_ix (ix_tupK (K := K) rfl) (pv 5) pe_int (fun _ _ => rfl))) (pe_ix (ix_tupK (K := K) rfl) (pv 6) pe_int (fun _ _ => rfl))) pa_nil))) (pg_tupK (K := K) 2 rfl rfl (pgs_cons (pg_name (i := 3) sc__law_sum.nd rfl (by first | exact Or.inl rfl | exact Or.inr rfl)) (pgs_cons (pg_name (i := 4) sc__law_sum.nd rfl (by first | exact Or.inl rfl | exact Or.inr rfl)) pgs_nil)))))) (pss_one (ps_ret (pe_tup (pa_cons (pv 3) (pa_cons (pv 4) pa_nil))))))))), ?_⟩
  obtain ⟨us, ha, pa, la⟩ := ra.len
  obtain ⟨vs, hb, pb, lb⟩ := rb.len
  refine ⟨_, rfl, _, _, rfl, rfl, _, rfl, ?_⟩
  refine ite2 (fun ck => ?_) (fun ck => ?_)
  · have k0 : k ≠ 0 := by have := of_decide_eq_true ck; omega
    obtain ⟨is, rfl, rfl⟩ := row_rests k0 ox pa
    obtain ⟨js, rfl, rfl⟩ := row_rests k0 oy pb
    rw [List.length_map] at hl h64
    rw [List.length_map] at hl
    refine ⟨_, rfl, _, rfl, a, b, _, _, rfl, SqL.of ha, SqL.of hb, ?_⟩
    refine comp_zip (xs := is.map V.int) (zs := js.map V.int) (by rw [List.length_map, List.length_map]; omega) (fun i ys' H' => Same H H' ∧ ys' = ((List.zipWith (· * ·) is js).take i).map V.int) ⟨Same.refl H, by simp⟩ ?_ ?_ ?_
    · rintro i ys' H' hi ⟨g, rfl⟩
      refine ⟨SqL.of (g _ _ ha), SqL.of (g _ _ hb), ?_⟩
      rw [List.length_map, List.length_take, List.length_zipWith]
      omega
    · rintro i x z T ys' H' hx hy hi hT ⟨g, rfl⟩
      rw [List.getElem?_map] at hx hy
      obtain ⟨u, hu, rfl⟩ := Option.map_eq_some_iff.mp hx
      obtain ⟨u', hu', rfl⟩ := Option.map_eq_some_iff.mp hy
      have ou := ox (.z u) (List.mem_map.mpr ⟨u, List.mem_of_getElem? hu, rfl⟩)
      refine ⟨T, _, rfl, SqT.of upd_same, rfl, _, _, rfl, _, _, rfl, rfl, ?_⟩
      first | refine gyes ?_ | refine tyes ?_
      refine ⟨_, rfl, _, rfl, _, _, rfl, rfl, mulok_small ou.2.1 (by have := ou.2.2; omega), nxt hi ⟨g.trans (same_new hT _), ?_⟩⟩
      have e : (List.zipWith (· * ·) is js)[i]? = some (u * u') := by rw [List.getElem?_zipWith, hu, hu']
      rw [take_snoc e, List.map_append]; rfl
    · rintro ys' H' ⟨g, rfl⟩ pl hpl
      have el : (is.map V.int).length = (List.zipWith (· * ·) is js).length := by rw [List.length_map, List.length_zipWith]; omega
      rw [el, List.take_length]
      refine ⟨pl, _, rfl, SqL.of upd_same, _, rfl, _, _, rfl, rfl, k0, ?_⟩
      refine q _ _ (g.trans (same_new hpl _)) ?_
      rw [← La.zdot_eq hk k0 hl ox oy]
      exact RN.of_z
  · have k0 : k = 0 := by
      have : ¬ 0 < k := of_decide_eq_false (Bool.eq_false_iff.mpr ck)
      omega
    subst k0
    have isq : ∀ (x : Nb), x.ok 0 → ∃ r, x = .q r := fun x o => by
      cases x with
      | q r => exact ⟨r, rfl⟩
      | z j => exact absurd rfl o.1
    refine ⟨_, rfl, _, rfl, a, b, us, vs, rfl, SqL.of ha, SqL.of hb, ?_⟩
    refine for_zip (xs := us) (zs := vs) (by omega) (fun i σ H' => ∃ (r : Rat) (o5 o6 : Option V), σ = [some (.int 0), some (.ref a), some (.ref b), some (.int r.num), some (.int (r.den : Int)), o5, o6] ∧ Same H H' ∧ La.ndotF 0 ((xs.zip ys).take i) = .q r ∧ Sm (2 + i * 200001) r.num ∧ Sm (2 + i * 200001) (r.den : Int)) ⟨0, none, none, rfl, Same.refl H, rfl, sm_zero _, sm_one.mono (by omega)⟩ ?_ ?_ ?_
    · rintro i σ H' _ ⟨r, o5, o6, rfl, g, _⟩
      exact ⟨SqL.of (g _ _ ha), SqL.of (g _ _ hb)⟩
    · rintro i x z T σ H' hx hz hT ⟨r, o5, o6, rfl, g, er, sn, sd⟩
      obtain ⟨x', hx', rx⟩ := pd_right pa hx
      obtain ⟨y', hy', ry⟩ := pd_right pb hz
      obtain ⟨x1, rfl⟩ := isq x' (ox x' (List.mem_of_getElem? hx'))
      obtain ⟨y1, rfl⟩ := isq y' (oy y' (List.mem_of_getElem? hy'))
      have g' := g.trans (same_new hT (.tup [x, z]))
      obtain ⟨px, rfl, hpx⟩ := (rx.mono g').q
      obtain ⟨py, rfl, hpy⟩ := (ry.mono g').q
      have xs1 := sx _ (List.mem_of_getElem? hx')
      have ys1 := sy _ (List.mem_of_getElem? hy')
      have il : i < xs.length := (List.getElem?_eq_some_iff.mp hx').1
      have m1 := sn.mul xs1.2
      have m2 := xs1.1.mul ys1.1
      have m3 := sd.mul xs1.2
      have bp : (0 : Int) < (r.den : Int) * (x1.den : Int) * (y1.den : Int) := Int.mul_pos (Int.mul_pos (den_pos r) (den_pos x1)) (den_pos y1)
      refine ⟨T, _, rfl, SqT.of upd_same, rfl, _, _, rfl, _, _, rfl, rfl, ?_⟩
      refine ⟨_, rfl, _, rfl, px, _, _, _, rfl, rfl, SqT.of hpx, rfl, _, _, rfl, rfl, sn.mulOk xs1.2 (by omega), _, rfl, py, _, _, _, rfl, rfl, SqT.of hpy, rfl, _, _, rfl, rfl, m1.mulOk ys1.2 (by omega), ?_⟩
      refine ⟨_, rfl, px, _, _, _, rfl, rfl, SqT.of hpx, rfl, _, rfl, py, _, _, _, rfl, rfl, SqT.of hpy, rfl, _, _, rfl, rfl, xs1.1.mulOk ys1.1 (by omega), _, rfl, _, _, rfl, rfl, m2.mulOk sd (by omega), _, _, rfl, rfl, ?_⟩
      refine ⟨_, rfl, _, rfl, px, _, _, _, rfl, rfl, SqT.of hpx, rfl, _, _, rfl, rfl, sd.mulOk xs1.2 (by omega), _, rfl, py, _, _, _, rfl, rfl, SqT.of hpy, rfl, _, _, rfl, rfl, m3.mulOk ys1.2 (by omega), ?_⟩
      refine ⟨_, _, rfl, bp, fun p H2 g2 hp => ?_⟩
      rw [rat_step] at hp
      refine ⟨p, _, rfl, SqT.of hp, rfl, _, _, rfl, _, _, rfl, rfl, ?_⟩
      have e : (xs.zip ys)[i]? = some (.q x1, .q y1) := by rw [List.getElem?_zip_eq_some]; exact ⟨hx', hy'⟩
      refine ⟨r + x1 * y1, _, _, rfl, g'.trans g2, ?_, ?_⟩
      · rw [take_snoc e, La.ndotF_snoc, er]; rfl
      · rw [← rat_step]
        have st : Sm (2 + i * 200001 + 100000 + 100000 + 1) (r.num * x1.den * y1.den + x1.num * y1.num * r.den) := (m1.mul ys1.2).add ((m2.mul sd).mono (by omega))
        have d := divInt_sm (by omega) st (m3.mul ys1.2)
        exact ⟨d.1.mono (by omega), d.2.mono (by omega)⟩
    · rintro σ H' ⟨r, o5, o6, rfl, g, er, sn, sd⟩
      refine ⟨_, rfl, _, rfl, (by show 2 ≤ sizeLine; decide), fun p hp => ?_⟩
      refine q _ _ (g.trans (same_new hp _)) ?_
      rw [la, List.take_of_length_le (by rw [List.length_zip]; omega)] at er
      have e : La.ndot 0 xs ys = .q r := er
      rw [e]
      exact RN.of_q upd_same
/-! _law_next -/
def sp_lnext : Sp := fun vs H Q _ => ∃ (k : Int) (A B C : List (List Nb)) (xs us : List Nb) (n h s m : Nat) (pm ta tb tc ax au : Addr) (ra rb rc : List Addr), vs = [.int k, .ref pm, .ref ax, .ref au] ∧ KindOk k ∧ MachAt H A B C pm ta tb tc ra rb rc ∧ RowAt H xs ax ∧ RowAt H us au ∧ MOk k n h s m A B C ∧ ROk k n m xs ∧ ROk k h m us ∧ m ≤ 100000 ∧ n + h ≤ 64 ∧
  ∀ p H', Same H H' → NewR H H' (nextM k A B xs us) p → Q (.ref p) H'
theorem kn_lnext (D : Df K mg "_law_next" ["_law_kind_here", "_law_machine_here", "_law_standing", "_law_inputs"] s__law_next) (d__law_sum : Kn P w K mg base "_law_sum" 42 ["_law_kind_here", "_law_one", "_law_other"] sp_lsum) (m_zip : mg "zip" = none) : Kn P w K mg base "_law_next" 43 ["_law_kind_here", "_law_machine_here", "_law_standing", "_law_inputs"] sp_lnext := by
  refine D.kn sc__law_next (fun vs H Q E h => ?_) (fun f cdv A' outer s' H vs Q E hr h => ?_)
  · obtain ⟨k, A, B, C, xs, us, n, h, s, m, pm, ta, tb, tc, ax, au, ra, rb, rc, rfl, _⟩ := h; rfl
  obtain ⟨k, A, B, C, xs, us, n, h, s, m, pm, ta, tb, tc, ax, au, ra, rb, rc, rfl, hk, hM, hx, hu, oM, rx, ru, m1, nh, q⟩ := h
  have szl : sizeLine = 16777216 := by decide
  refine ⟨_, (pss_one (ps_ret (pe_comp ["_law_row", "_law_more"] ["_law_kind_here", "_law_standing", "_law_inputs"] [0, 2, 3] ⟨rfl, rfl, rfl, rfl, rfl, rfl, by decide +kernel⟩ rfl (pi_zipK (K := K) rfl rfl m_zip (pa_cons (pe_ix (ix_tupK (K := K) rfl) (pv 1) pe_int (fun _ _ => rfl)) (pa_cons (pe_ix (ix_tupK (K := K) rfl) (pv 1) pe_int (fun _ _ => rfl)) pa_nil))) (gown_tup (gowns_cons (gown_name (by decide)) gmono_name (gowns_cons (gown_name (by decide)) gmono_name gowns_nil))) fun _ _ _ _ _ _ => ⟨(pg_tupK (K := K) 2 rfl rfl (pgs_cons (pg_name (i := 0) (by decide : (["_law_row", "_law_more", "_law_kind_here", "_law_standing", "_law_inputs"] : List Str).Nodup) rfl (by first | exact Or.inl rfl | exact Or.inr rfl)) (pgs_cons (pg_name (i := 1) (by decide : (["_law_row", "_law_more", "_law_kind_here", "_law_standing", "_law_inputs"] : List Str).Nodup) rfl (by first | exact Or.inl rfl | exact Or.inr rfl)) pgs_nil))), pts_nil, (pe_kn d__law_sum (hr.mono (by decide)) rfl (pa_cons (pv 2) (pa_cons (pe_op op_cat (pv 0) (pv 1)) (pa_cons (pe_op op_cat (pv 3) (pv 4)) pa_nil))))⟩))), ?_⟩
  have la := pd_len hM.a.2
  have lb := pd_len hM.b.2
  rw [oM.a.len] at la
  rw [oM.b.len] at lb
  have oAB := augM_tok oM.a oM.b
  refine ⟨_, rfl, pm, _, _, _, rfl, rfl, SqT.of hM.tup, rfl, _, rfl, pm, _, _, _, rfl, rfl, SqT.of hM.tup, rfl, ta, tb, _, _, rfl, SqL.of hM.a.1, SqL.of hM.b.1, ?_⟩
  refine comp_zip (xs := ra.map V.ref) (zs := rb.map V.ref) (by rw [List.length_map, List.length_map]; omega) (fun i ys H' => Same H H' ∧ Paired (RN H') ((nextM k A B xs us).take i) ys) ⟨Same.refl H, .nil⟩ ?_ ?_ ?_
  · rintro i ys H' hi ⟨g, pr⟩
    refine ⟨SqL.of (g _ _ hM.a.1), SqL.of (g _ _ hM.b.1), ?_⟩
    have := pd_len pr
    rw [List.length_take] at this
    rw [List.length_map] at hi; omega
  · rintro i x z T ys H' hx' hz' hi hT ⟨g, pr⟩
    have g1 := g.trans (same_new hT (.tup [x, z]))
    have pr1 := pd_rn (same_new hT (.tup [x, z])) pr
    obtain ⟨row, a, hrow, ha, rfl, hR⟩ := (hM.a.mono g1).row hx'
    obtain ⟨row2, a2, hrow2, ha2, rfl, hR2⟩ := (hM.b.mono g1).row hz'
    obtain ⟨us1, hu1, pu1, lu1⟩ := hR.len
    obtain ⟨us2, hu2, pu2, lu2⟩ := hR2.len
    have r1 := oM.a.row (List.mem_of_getElem? hrow)
    have r2 := oM.b.row (List.mem_of_getElem? hrow2)
    refine ⟨T, _, rfl, SqT.of upd_same, rfl, _, _, rfl, _, _, rfl, rfl, ?_⟩
    generalize upd H' T (.tup [.ref a, .ref a2]) = H1 at *
    first | refine gyes ?_ | refine tyes ?_
    refine ⟨_, rfl, _, rfl, _, rfl, a, a2, _, _, rfl, rfl, hu1, hu2, (by rw [lu1, lu2, r1.len, r2.len]; omega), fun p hp => ?_⟩
    have g2 := same_new hp (.lst (us1 ++ us2))
    have R2 : RowAt (upd H1 p (.lst (us1 ++ us2))) (row ++ row2) p := ⟨_, upd_same, pd_rn g2 (pd_app pu1 pu2)⟩
    have g12 := g1.trans g2
    have pr2 := pd_rn g2 pr1
    generalize upd H1 p (.lst (us1 ++ us2)) = H2 at *
    obtain ⟨us3, hu3, pu3, lu3⟩ := (hx.mono g12).len
    obtain ⟨us4, hu4, pu4, lu4⟩ := (hu.mono g12).len
    refine ⟨_, rfl, _, rfl, ax, au, _, _, rfl, rfl, hu3, hu4, (by rw [lu3, lu4, rx.len, ru.len]; omega), fun p3 hp3 => ?_⟩
    have g3 := same_new hp3 (.lst (us3 ++ us4))
    have R3 : RowAt (upd H2 p3 (.lst (us3 ++ us4))) (xs ++ us) p3 := ⟨_, upd_same, pd_rn g3 (pd_app pu3 pu4)⟩
    have g13 := g12.trans g3
    have pr3 := pd_rn g3 pr2
    have R2' := R2.mono g3
    generalize upd H2 p3 (.lst (us3 ++ us4)) = H3 at *
    have r12 := (r1.app r2).up m1
    have rxu := (rx.app ru).up m1
    refine ⟨k, row ++ row2, xs ++ us, p, p3, rfl, hk, R2', R3, r12.ok, rxu.ok, by rw [r12.len, rxu.len], by rw [r12.len]; omega, r12.sz, rxu.sz, fun v4 H4 g4 r4 => nxt hi ⟨g13.trans g4, ?_⟩⟩
    have e : (nextM k A B xs us)[i]? = some (La.ndot k (row ++ row2) (xs ++ us)) := by unfold nextM imgM; rw [List.getElem?_map, augM_get hrow hrow2]; rfl
    rw [take_snoc e]
    exact pd_snoc (pd_rn g4 pr3) r4
  · rintro ys H' ⟨g, pr⟩ pb hpb
    have ln : (nextM k A B xs us).length = n := by unfold nextM imgM; rw [List.length_map, oAB.len]
    rw [List.length_map, List.take_of_length_le (by omega)] at pr
    exact q pb _ (g.trans (same_new hpb _)) ⟨⟨ys, upd_same, pd_rn (same_new hpb _) pr⟩, g.none hpb⟩
/-! _law_is, of rows -/
def sp_lis : Sp := fun vs H Q _ => ∃ (k : Int) (xs : List Nb) (a b : Addr), vs = [.int k, .ref a, .ref b] ∧ KindOk k ∧ RowAt H xs a ∧ RowAt H xs b ∧ La.OkR k xs ∧ Q (.bl true) H
theorem kn_lis (D : Df K mg "_law_is" ["_law_kind_here", "_law_found", "_law_due"] s__law_is) (m_isinstance : mg "isinstance" = none) (m_list : mg "list" = none) (m_bool : mg "bool" = none) (m_tuple : mg "tuple" = none) : Kn P w K mg base "_law_is" 1 ["_law_kind_here", "_law_found", "_law_due"] sp_lis := by
  refine D.kn sc__law_is (fun vs H Q E h => ?_) (fun f cdv A outer s H vs Q E hr h => ?_)
  · obtain ⟨k, xs, a, b, rfl, _⟩ := h; rfl
  obtain ⟨k, xs, a, b, rfl, hk, ra, rb, ox, q⟩ := h
  refine ⟨_, (pss_cons (ps_if (PW.pt (pw_or (pt_not (pt_val (pe_callB (call_isiK (K := K) rfl) rfl m_isinstance bb_isinstance (pa_cons (pv 1) (pa_cons (pe_ty rfl m_list bb_list) pa_nil))))) (pw_or1 (pt_cmpR (op_neD hr) (pv 1) (pv 2) (nomark _))))) (pss_one (ps_ret pe_bl)) pss_nil) (pss_cons (ps_for PassesOwn.never rfl (pi_listK (K := K) rfl (pv 1)) (pg_name (i := 3) sc__law_is.nd rfl (by first | exact Or.inl rfl | exact Or.inr rfl)) (pss_one (ps_if (PW.pt (pw_or (pt_val (pe_callB (call_isiK (K := K) rfl) rfl m_isinstance bb_isinstance (pa_cons (pv 3) (pa_cons (pe_ty rfl m_bool bb_bool) pa_nil)))) (pw_or1 (pt_cmpR op_ne (pe_callB (call_isiK (K := K) rfl) rfl m_isinstance bb_isinstance (pa_cons (pv 3) (pa_cons (pe_ty rfl m_tuple bb_tuple) pa_nil))) (pe_cmpR op_eq (pv 0) pe_int (nomark _)) (nomark _))))) (pss_one (ps_ret pe_bl)) pss_nil))) (pss_one (ps_ret pe_bl)))), ?_⟩
  obtain ⟨us, hu, pu, lu⟩ := ra.len
  refine ⟨_, rfl, _, _, _, _, rfl, TyOf.lst hu, kit_ll K, _, rfl, iteF ?_⟩
  refine ⟨_, rfl, _, rfl, rowD xs, rowD xs, ra.rp, rb.rp, rowD_lay xs, rowD_lay xs, Nat.le_trans (Nat.min_le_left _ _) (Nat.le_trans (rowD_depth xs) (by decide)), _, rfl, ?_⟩
  rw [rowD_self]
  refine iteF ?_
  refine ⟨_, rfl, a, rfl, ⟨_, SqL.of hu⟩, ?_⟩
  refine for_list (xs := us) (fun i σ H' => ∃ o3, σ = [some (.int k), some (.ref a), some (.ref b), o3] ∧ H' = H) ⟨none, rfl, rfl⟩ ?_ ?_ ?_
  · rintro i σ H' _ ⟨o3, rfl, rfl⟩
    exact SqL.of hu
  · rintro i x σ H' hx ⟨o3, rfl, rfl⟩
    obtain ⟨n1, e1, r1⟩ := pd_right pu hx
    have on := ox n1 (List.mem_of_getElem? e1)
    cases n1 with
    | q s1 =>
      obtain ⟨p1, rfl, h1⟩ := r1.q
      have k0 : k = 0 := on
      subst k0
      refine ⟨_, rfl, _, _, _, _, rfl, TyOf.tup h1, kit_tb K, _, rfl, iteF ?_⟩
      refine ⟨_, rfl, _, _, _, _, rfl, TyOf.tup h1, kit_tt K, _, rfl, rfl, rfl, _, rfl, iteF ?_⟩
      exact ⟨_, rfl, rfl⟩
    | z i1 =>
      rw [r1.z]
      have k0 : k ≠ 0 := on.1
      refine ⟨_, rfl, _, _, _, _, rfl, TyOf.int i1, kit_ib K, _, rfl, iteF ?_⟩
      refine ⟨_, rfl, _, _, _, _, rfl, TyOf.int i1, kit_it K, _, rfl, rfl, rfl, _, rfl, ?_⟩
      have e : decide (V.int k = V.int 0) = false := decide_eq_false fun e => k0 (V.int.inj e)
      rw [e]
      exact iteF ⟨_, rfl, rfl⟩
  · rintro σ H' ⟨o3, rfl, rfl⟩
    exact q
/-! _law_right -/
theorem tabF_one (k c : Int) (n : Nat) (f : Int) : tabF k c 1 n f = [rowF k c n f 0] := rfl
def szN : Nat → Nat
  | 0 => 14
  | i + 1 => 7 + 8 * (14 + szN i + 1)
theorem szN_lo : ∀ i, 14 ≤ szN i
  | 0 => by decide
  | i + 1 => by have := szN_lo i; simp only [szN]; omega
theorem st_rok {k : Int} (hk : KindOk k) {n h s : Nat} {A B C : List (List Nb)} {xs : List Nb} {U : List (List Nb)} (hM : MOk k n h s 14 A B C) (hx : ROk k n 14 xs) (hU : TOk k U.length h 14 U) (nh : n + h ≤ 8) : ∀ i, i ≤ U.length → ROk k n (szN i) (stM k A B xs (U.take i))
  | 0, _ => by rw [List.take_zero]; exact hx
  | i + 1, hi => by
    have ih := st_rok hk hM hx hU nh i (by omega)
    have hu : U[i]? = some U[i] := List.getElem?_eq_getElem (by omega)
    rw [take_snoc hu, stM_snoc]
    have hm := szN_lo i
    have := next_rok hk (by decide) hm hM ih ((hU.row (List.mem_of_getElem? hu)).up hm)
    refine this.up ?_
    have h1 : (n + h) * (14 + szN i + 1) ≤ 8 * (14 + szN i + 1) := Nat.mul_le_mul_right _ nh
    simp only [szN]
    omega
theorem szN_hi {i : Nat} (h : i ≤ 3) : szN i ≤ 20000 := by
  rcases (show i = 0 ∨ i = 1 ∨ i = 2 ∨ i = 3 by omega) with e | e | e | e <;> rw [e] <;> decide
def keptD (xs : List Nb) (U : List (List Nb)) : PyData := .list [rowD xs, tabD U]
theorem keptD_self (xs : List Nb) (U : List (List Nb)) : PyData.eqv (keptD xs U) (keptD xs U) = true := by
  show (PyData.eqv (rowD xs) (rowD xs) && (PyData.eqv (tabD U) (tabD U) && true)) = true
  rw [tabD_self, rowD_self]; rfl
theorem keptD_lay (xs : List Nb) (U : List (List Nb)) : (keptD xs U).canLay0 = true := by
  show ((rowD xs).canLay0 && ((tabD U).canLay0 && true)) = true
  rw [tabD_lay, rowD_lay]; rfl
theorem keptD_depth (xs : List Nb) (U : List (List Nb)) : (keptD xs U).depth ≤ 4 := by
  show max (rowD xs).depth (max (tabD U).depth 0) + 1 ≤ 4
  have := tabD_depth U
  have := rowD_depth xs
  omega
def sp_lright : Sp := fun vs H Q _ => ∃ (k c : Int), vs = [.int k, .int c] ∧ KindOk k ∧ ∀ H', Same H H' → Q (.bl true) H'
theorem kn_lright (D : Df K mg "_law_right" ["_law_kind_here", "_law_cell"] s__law_right) (d__law_machine : Kn P w K mg base "_law_machine" 44 ["_law_kind_here", "_law_cell"] sp_lmach) (d__law_table : Kn P w K mg base "_law_table" 43 ["_law_kind_here", "_law_cell", "_law_rows", "_law_columns", "_law_far"] sp_ltable) (d__law_mix : Kn P w K mg base "_law_mix" 1 ["_law_cell", "_law_j"] sp_mix) (d__law_sum : Kn P w K mg base "_law_sum" 42 ["_law_kind_here", "_law_one", "_law_other"] sp_lsum)
    (d_next_of : Kn P w K mg base "next_of" 46 ["kind", "machine", "standing", "inputs"] sp_next) (d__law_next : Kn P w K mg base "_law_next" 43 ["_law_kind_here", "_law_machine_here", "_law_standing", "_law_inputs"] sp_lnext) (d__law_is : Kn P w K mg base "_law_is" 1 ["_law_kind_here", "_law_found", "_law_due"] sp_lis) (d_seen_of : Kn P w K mg base "seen_of" 46 ["kind", "machine", "standing"] sp_seen) (d_run : Kn P w K mg base "run" 47 ["kind", "machine", "standing", "inputs"] sp_run)
    (m_len : mg "len" = none) (m_list : mg "list" = none) (m_isinstance : mg "isinstance" = none) (m_zip : mg "zip" = none) : Kn P w K mg base "_law_right" 48 ["_law_kind_here", "_law_cell"] sp_lright := by
  refine D.kn sc__law_right (fun vs H Q E h => ?_) (fun f cdv A' outer s' H vs Q E hr h => ?_)
  · obtain ⟨k, c, rfl, _⟩ := h; rfl
  obtain ⟨k, c, rfl, hk, q⟩ := h
  have szl : sizeLine = 16777216 := by decide
  have n4 : (4 : Int) ≠ 0 := by decide
  refine ⟨_, (pss_cons (ps_set (i := 2) sc__law_right.nd rfl (by first | exact Or.inl rfl | exact Or.inr rfl) (pe_kn d__law_machine (hr.mono (by decide)) rfl (pa_cons (pv 0) (pa_cons (pv 1) pa_nil)))) (pss_cons (ps_set (i := 3) sc__law_right.nd rfl (by first | exact Or.inl rfl | exact Or.inr rfl) (pe_ix (ix_listK (K := K) rfl) (pe_kn d__law_table (hr.mono (by decide)) rfl (pa_cons (pv 0) (pa_cons (pv 1) (pa_cons pe_int (pa_cons (pe_callB (call_lenK (K := K) rfl) rfl m_len bb_len (pa_cons (pe_ix (ix_tupK (K := K) rfl) (pv 2) pe_int (fun _ _ => rfl)) pa_nil)) (pa_cons pe_int pa_nil)))))) pe_int (fun _ _ => rfl))) (pss_cons (ps_set (i := 4) sc__law_right.nd rfl (by first | exact Or.inl rfl | exact Or.inr rfl) (pe_lst pa_nil)) (pss_cons (ps_if (pt_cmpR op_gt (pe_op op_modN (pe_kn d__law_mix (hr.mono (by decide)) rfl (pa_cons (pv 1) (pa_cons pe_int pa_nil))) pe_int) pe_int (nomark _)) (pss_one (ps_set (i := 4) sc__law_right.nd rfl (by first | exact Or.inl rfl | exact Or.inr rfl) (pe_kn d__law_table (hr.mono (by decide)) rfl (pa_cons (pv 0) (pa_cons (pv 1) (pa_cons (pe_op op_modN (pe_kn d__law_mix (hr.mono (by decide)) rfl (pa_cons (pv 1) (pa_cons pe_int pa_nil))) pe_int) (pa_cons (pe_callB (call_lenK (K := K) rfl) rfl m_len bb_len (pa_cons (pe_ix (ix_listK (K := K) rfl) (pe_ix (ix_tupK (K := K) rfl) (pv 2) pe_int (fun _ _ => rfl)) pe_int (fun _ _ => rfl)) pa_nil)) (pa_cons pe_int pa_nil)))))))) pss_nil) (pss_cons (ps_set (i := 5) sc__law_right.nd rfl (by first | exact Or.inl rfl | exact Or.inr rfl) (pe_lst (pa_cons (pe_callTy (call_listK (K := K) rfl) rfl m_list bb_list (pa_cons (pv 3) pa_nil)) (pa_cons (pe_comp ["_law_some"] [] [] ⟨rfl, rfl, rfl, rfl, rfl, rfl, by decide +kernel⟩ rfl (pi_listK (K := K) rfl (pv 4)) (gown_name (by decide)) fun _ _ _ _ _ _ => ⟨(pg_name (i := 0) (by decide : (["_law_some"] : List Str).Nodup) rfl (by first | exact Or.inl rfl | exact Or.inr rfl)), pts_nil, (pe_callTy (call_listK (K := K) rfl) rfl m_list bb_list (pa_cons (pv 0) pa_nil))⟩) pa_nil)))) (pss_cons (ps_set (i := 6) sc__law_right.nd rfl (by first | exact Or.inl rfl | exact Or.inr rfl) (pv 3)) (pss_cons (ps_set (i := 7) sc__law_right.nd rfl (by first | exact Or.inl rfl | exact Or.inr rfl) (pe_lst pa_nil)) (pss_cons (ps_for PassesOwn.never rfl (pi_listK (K := K) rfl (pv 4)) (pg_name (i := 8) sc__law_right.nd rfl (by first | exact Or.inl rfl | exact Or.inr rfl)) (pss_cons (ps_expr (pe_bm PySem.F.plainAttrs_list PySem.F.slot_list_append PySem.F.type_list_append mt_append (pv 7) (pa_cons (pe_comp ["_law_row"] ["_law_kind_here", "_law_here"] [0, 6] ⟨rfl, rfl, rfl, rfl, rfl, rfl, by decide +kernel⟩ rfl (pi_listK (K := K) rfl (pe_ix (ix_tupK (K := K) rfl) (pv 2) pe_int (fun _ _ => rfl))) (gown_name (by decide)) fun _ _ _ _ _ _ => ⟨(pg_name (i := 0) (by decide : (["_law_row", "_law_kind_here", "_law_here"] : List Str).Nodup) rfl (by first | exact Or.inl rfl | exact Or.inr rfl)), pts_nil, (pe_kn d__law_sum (hr.mono (by decide)) rfl (pa_cons (pv 1) (pa_cons (pv 0) (pa_cons (pv 2) pa_nil))))⟩) pa_nil))) (pss_cons (ps_set (i := 9) sc__law_right.nd rfl (by first | exact Or.inl rfl | exact Or.inr rfl) (pe_kn d_next_of (hr.mono (by decide)) rfl (pa_cons (pv 0) (pa_cons (pv 2) (pa_cons (pv 6) (pa_cons (pv 8) pa_nil)))))) (pss_cons (ps_if (pt_not (pt_val (pe_kn d__law_is (hr.mono (by decide)) rfl (pa_cons (pv 0) (pa_cons (pv 9) (pa_cons (pe_kn d__law_next (hr.mono (by decide)) rfl (pa_cons (pv 0) (pa_cons (pv 2) (pa_cons (pv 6) (pa_cons (pv 8) pa_nil))))) pa_nil)))))) (pss_one (ps_ret pe_bl)) pss_nil) (pss_one (ps_set (i := 6) sc__law_right.nd rfl (by first | exact Or.inl rfl | exact Or.inr rfl) (pv 9))))))) (pss_cons (ps_expr (pe_bm PySem.F.plainAttrs_list PySem.F.slot_list_append PySem.F.type_list_append mt_append (pv 7) (pa_cons (pe_comp ["_law_row"] ["_law_kind_here", "_law_here"] [0, 6] ⟨rfl, rfl, rfl, rfl, rfl, rfl, by decide +kernel⟩ rfl (pi_listK (K := K) rfl (pe_ix (ix_tupK (K := K) rfl) (pv 2) pe_int (fun _ _ => rfl))) (gown_name (by decide)) fun _ _ _ _ _ _ => ⟨(pg_name (i := 0) (by decide : (["_law_row", "_law_kind_here", "_law_here"] : List Str).Nodup) rfl (by first | exact Or.inl rfl | exact Or.inr rfl)), pts_nil, (pe_kn d__law_sum (hr.mono (by decide)) rfl (pa_cons (pv 1) (pa_cons (pv 0) (pa_cons (pv 2) pa_nil))))⟩) pa_nil))) (pss_cons (ps_set (i := 10) sc__law_right.nd rfl (by first | exact Or.inl rfl | exact Or.inr rfl) (pe_kn d_seen_of (hr.mono (by decide)) rfl (pa_cons (pv 0) (pa_cons (pv 2) (pa_cons (pv 6) pa_nil))))) (pss_cons (ps_set (i := 11) sc__law_right.nd rfl (by first | exact Or.inl rfl | exact Or.inr rfl) (pe_kn d_run (hr.mono (by decide)) rfl (pa_cons (pv 0) (pa_cons (pv 2) (pa_cons (pv 3) (pa_cons (pv 4) pa_nil)))))) (pss_cons (ps_if (PW.pt (pw_or (pt_not (pt_val (pe_kn d__law_is (hr.mono (by decide)) rfl (pa_cons (pv 0) (pa_cons (pv 10) (pa_cons (pe_ix (ix_listK (K := K) rfl) (pv 7) (pe_callB (call_lenK (K := K) rfl) rfl m_len bb_len (pa_cons (pv 4) pa_nil)) (fun _ _ => rfl)) pa_nil)))))) (pw_or (pt_not (pt_val (pe_callB (call_isiK (K := K) rfl) rfl m_isinstance bb_isinstance (pa_cons (pv 11) (pa_cons (pe_ty rfl m_list bb_list) pa_nil))))) (pw_or1 (pt_cmpR op_ne (pe_callB (call_lenK (K := K) rfl) rfl m_len bb_len (pa_cons (pv 11) pa_nil)) (pe_callB (call_lenK (K := K) rfl) rfl m_len bb_len (pa_cons (pv 7) pa_nil)) (nomark _)))))) (pss_one (ps_ret pe_bl)) pss_nil) (pss_cons (ps_for PassesOwn.never rfl (pi_zipK (K := K) rfl rfl m_zip (pa_cons (pv 11) (pa_cons (pv 7) pa_nil))) (pg_tupK (K := K) 2 rfl rfl (pgs_cons (pg_name (i := 12) sc__law_right.nd rfl (by first | exact Or.inl rfl | exact Or.inr rfl)) (pgs_cons (pg_name (i := 13) sc__law_right.nd rfl (by first | exact Or.inl rfl | exact Or.inr rfl)) pgs_nil))) (pss_cons (ps_if (pt_not (pt_val (pe_kn d__law_is (hr.mono (by decide)) rfl (pa_cons (pv 0) (pa_cons (pv 12) (pa_cons (pv 13) pa_nil)))))) (pss_one (ps_ret pe_bl)) pss_nil) (pss_one (ps_expr (pe_bm PySem.F.plainAttrs_list PySem.F.slot_list_append PySem.F.type_list_append mt_append (pv 12) (pa_cons pe_non pa_nil)))))) (pss_cons (ps_expr (pe_bm PySem.F.plainAttrs_list PySem.F.slot_list_append PySem.F.type_list_append mt_append (pv 10) (pa_cons pe_non pa_nil))) (pss_one (ps_ret (pe_and (pe_cmpR (op_eqD hr) (pv 2) (pe_kn d__law_machine (hr.mono (by decide)) rfl (pa_cons (pv 0) (pa_cons (pv 1) pa_nil))) (nomark _)) (pe_one (pe_cmpR (op_eqD hr) (pe_lst (pa_cons (pv 3) (pa_cons (pv 4) pa_nil))) (pv 5) (nomark _)))))))))))))))))))), ?_⟩
  -- machine, standing
  refine ⟨_, rfl, _, rfl, k, c, rfl, hk, fun pm ta tb tc ra rb rc H1 g1 hM1 => ?_⟩
  have oM := m_mok hk c
  obtain ⟨n1, n5, h1, h3, s1, s3⟩ := m_bd c
  have m5 : mMost = 5 := rfl
  have la := pd_len hM1.a.2
  rw [oM.a.len] at la
  have lb := pd_len hM1.b.2
  rw [oM.b.len] at lb
  have lc := pd_len hM1.c.2
  rw [oM.c.len] at lc
  refine ⟨_, rfl, _, rfl, _, rfl, pm, _, _, _, rfl, rfl, SqT.of hM1.tup, rfl, ta, _, rfl, .inl (SqL.of hM1.a.1), k, c, 1, mN c, 65, (by rw [List.length_map, ← la]; rfl), hk, (by decide), (by omega), (by decide), (by decide), fun t2 r2 H2 g2 nx2 => ?_⟩
  rw [tabF_one] at nx2
  have rX := rowF_rok hk c (mN c) 65 0
  generalize rowF k c (mN c) 65 0 = xs at *
  obtain ⟨ax, rfl⟩ : ∃ ax, r2 = [ax] := by
    match r2, pd_len nx2.tab.2 with
    | [ax], _ => exact ⟨ax, rfl⟩
  have hx2 : RowAt H2 xs ax := pd_get nx2.tab.2 (i := 0) rfl rfl
  refine ⟨t2, _, _, _, rfl, rfl, SqL.of nx2.tab.1, rfl, ?_⟩
  have hM2 := hM1.mono g2
  have g12 := g1.trans g2
  clear nx2 hM1
  generalize eA : mA k c = A at *
  generalize eB : mB k c = B at *
  generalize eC : mC k c = C at *
  -- inputs
  refine ⟨(by show 0 ≤ sizeLine; decide), fun pe hpe => ?_⟩
  have g3 := same_new hpe (.lst [])
  have T3 : TabAt (upd H2 pe (.lst [])) [] pe [] := ⟨upd_same, .nil⟩
  have hM3 := hM2.mono g3
  have hx3 := hx2.mono g3
  have g13 := g12.trans g3
  generalize upd H2 pe (.lst []) = H3 at *
  try dsimp only
  refine seq_share (fun σ H' => ∃ U tu ru, σ = [some (.int k), some (.int c), some (.ref pm), some (.ref ax), some (.ref tu), none, none, none, none, none, none, none, none, none] ∧ Same H H' ∧ MachAt H' A B C pm ta tb tc ra rb rc ∧ RowAt H' xs ax ∧ TabAt H' U tu ru ∧ TOk k U.length (mH c) 14 U ∧ U.length ≤ 3) ?_ ?_
  rotate_left
  · intro hN
    have f0 := Int.fmod_nonneg_of_pos (mixF c 5) (show (0 : Int) < 4 by decide)
    have f1 := Int.fmod_lt_of_pos (mixF c 5) (show (0 : Int) < 4 by decide)
    refine ⟨_, rfl, c, 5, rfl, (by decide), (by decide), _, _, rfl, rfl, n4, _, _, rfl, rfl, _, rfl, ?_⟩
    refine ite2 (fun cc => ?_) (fun cc => ?_)
    · obtain ⟨r0, rb', e0⟩ : ∃ r0 rb', rb = r0 :: rb' := by
        cases rb with
        | nil => rw [List.length_nil] at lb; omega
        | cons a b => exact ⟨a, b, rfl⟩
      obtain ⟨m0, hm0, hr0⟩ := pd_right hM3.b.2 (i := 0) (b := r0) (by rw [e0]; rfl)
      obtain ⟨u0, hu0, pu0, lu0⟩ := hr0.len
      have lm0 := (oM.b.ok m0 (List.mem_of_getElem? hm0)).1
      refine ⟨_, rfl, _, rfl, _, rfl, c, 5, rfl, (by decide), (by decide), _, _, rfl, rfl, n4, _, rfl, pm, _, _, _, rfl, rfl, SqT.of hM3.tup, rfl, tb, _, _, _, rfl, rfl, SqL.of hM3.b.1, (by rw [e0]; exact atI_nat (j := 0) rfl), r0, _, rfl, .inl (SqL.of hu0), k, c, ((mixF c 5).fmod 4).toNat, mH c, 70, ?_, hk, (by omega), (by omega), (by decide), (by decide), fun tu ru H4 g4 nu => ?_⟩
      · rw [lu0, lm0, show ((((mixF c 5).fmod 4).toNat : Nat) : Int) = (mixF c 5).fmod 4 by omega]
        rfl
      have oU := tabF_tok hk c ((mixF c 5).fmod 4).toNat (mH c) 70
      exact hN _ _ ⟨_, tu, ru, rfl, g13.trans g4, hM3.mono g4, hx3.mono g4, nu.tab, by rw [oU.len]; exact oU, by rw [oU.len]; omega⟩
    · exact hN _ _ ⟨[], pe, [], rfl, g13, hM3, hx3, T3, ⟨rfl, fun r hr => (nomatch hr), fun r hr => (nomatch hr)⟩, by decide⟩
  clear hM3 hx3 T3 g13 hM2 hx2 g12 g3 hpe
  rintro σ H3' ⟨U, tu, ru, rfl, gU, hM, hx, hU, oU, u3⟩
  clear g1 g2 H1 H2 H3
  have lU := pd_len hU.2
  have st : ∀ i, i ≤ U.length → ROk k (mN c) 20000 (stM k A B xs (U.take i)) := fun i hi => (st_rok hk oM rX oU (by have : mMost = 5 := rfl; omega) i hi).up (szN_hi (by omega))
  have oM' := oM.up (show (14 : Nat) ≤ 20000 by decide)
  have oU' := oU.up (show (14 : Nat) ≤ 20000 by decide)
  have hsz : (mN c + mH c + 2) * 20000 ≤ 20000000 := by have : mMost = 5 := rfl; omega
  -- kept
  obtain ⟨vx, hvx, pvx, lvx⟩ := hx.len
  refine ⟨_, rfl, ax, _, rfl, .inl (SqL.of hvx), fun l1 hl1 => ?_⟩
  have g4 := same_new hl1 (.lst vx)
  have K1 : RowAt (upd H3' l1 (.lst vx)) xs l1 := ⟨vx, upd_same, pd_rn g4 pvx⟩
  generalize upd H3' l1 (.lst vx) = H4 at *
  refine ⟨_, rfl, tu, rfl, ⟨_, SqL.of (g4 _ _ hU.1)⟩, comp_copy (hU.mono g4) (by omega) (fun a us H' Q h q => ⟨_, rfl, a, _, rfl, .inl (SqL.of h), q⟩) fun k2 H5 G5 pk2 hpk2 => ?_⟩
  have K2 := (G5.done hpk2).tab
  have g5 := G5.same.trans (same_new hpk2 (.lst (k2.map V.ref)))
  generalize upd H5 pk2 (.lst (k2.map V.ref)) = H6 at *
  refine ⟨(by show 2 ≤ sizeLine; decide), fun pk hpk => ?_⟩
  have g6 := same_new hpk (.lst [.ref l1, .ref pk2])
  have hK : upd H6 pk (.lst [.ref l1, .ref pk2]) pk = some (.lst [.ref l1, .ref pk2]) := upd_same
  generalize upd H6 pk (.lst [.ref l1, .ref pk2]) = Hk at *
  replace K1 := (K1.mono g5).mono g6
  replace K2 := K2.mono g6
  have gk := (g4.trans g5).trans g6
  replace hM := hM.mono gk
  replace hx := hx.mono gk
  replace hU := hU.mono gk
  replace gU := gU.trans gk
  clear gk g4 g5 g6 G5 hvx pvx hl1 hpk2 hpk
  -- here, due
  refine ⟨_, rfl, ?_⟩
  refine ⟨(by show 0 ≤ sizeLine; decide), fun pd hpd => ?_⟩
  have axd : ax ≠ pd := fun e => by obtain ⟨o, ho⟩ := hx.some; rw [e, hpd] at ho; cases ho
  have gd := same_new hpd (.lst [])
  refine ⟨_, rfl, tu, rfl, ⟨_, SqL.of (gd _ _ hU.1)⟩, ?_⟩
  refine for_list (xs := ru.map V.ref) (fun i σ H' => ∃ ah rd o8 o9, σ = [some (.int k), some (.int c), some (.ref pm), some (.ref ax), some (.ref tu), some (.ref pk), some (.ref ah), some (.ref pd), o8, o9, none, none, none, none] ∧ RowAt H' (stM k A B xs (U.take i)) ah ∧ ah ≠ pd ∧ Grow Hk H' ((runM k A B C xs U).take i) rd ∧ H' pd = some (.lst (rd.map V.ref)) ∧ pd ∉ rd) ⟨ax, [], none, none, rfl, hx.mono gd, axd, Grow.nil Hk gd, upd_same, by simp⟩ ?_ ?_ ?_
  · rintro i σ H' _ ⟨ah, rd, o8, o9, rfl, _, _, G, _⟩
    exact SqL.of (G.same _ _ hU.1)
  · rintro i v σ H7 hv ⟨ah, rd, o8, o9, rfl, hah, nah, G, hpd7, npd7⟩
    obtain ⟨u, a, hu, ha, rfl, hrow⟩ := (hU.mono G.same).row hv
    have iU : i < U.length := (List.getElem?_eq_some_iff.mp hu).1
    have M7 := hM.mono G.same
    have rst := st i (by omega)
    have ru1 := oU'.row (List.mem_of_getElem? hu)
    refine ⟨_, rfl, .inl ⟨rfl, _, SqL.of hpd7⟩, _, rfl, pm, _, _, _, rfl, rfl, SqT.of M7.tup, rfl, tc, rfl, ⟨_, SqL.of M7.c.1⟩, ?_⟩
    refine comp_list (xs := rc.map V.ref) (fun j ys H' => Same H7 H' ∧ Paired (RN H') ((imgM k C (stM k A B xs (U.take i))).take j) ys) ⟨Same.refl _, .nil⟩ ?_ ?_ ?_
    · rintro j ys H' hj ⟨g, pr⟩
      refine ⟨SqL.of (g _ _ M7.c.1), ?_⟩
      have := pd_len pr
      rw [List.length_take] at this
      rw [List.length_map] at hj; omega
    · rintro j v ys H' hv' hj ⟨g, pr⟩
      obtain ⟨row, ar, hrw, har, rfl, hR⟩ := (M7.c.mono g).row hv'
      have rr := (oM'.c.row (List.mem_of_getElem? hrw)).up (show (20000 : Nat) ≤ 100000 by decide)
      have rst' := rst.up (show (20000 : Nat) ≤ 100000 by decide)
      first | refine gyes ?_ | refine tyes ?_
      refine ⟨_, rfl, _, rfl, _, rfl, k, row, _, ar, ah, rfl, hk, hR, hah.mono g, rr.ok, rst.ok, by rw [rr.len, rst.len], by rw [rr.len]; have : mMost = 5 := rfl; omega, rr.sz, rst'.sz, fun v8 H8 g8 r8 => nxt hj ⟨g.trans g8, ?_⟩⟩
      have e : (imgM k C (stM k A B xs (U.take i)))[j]? = some (La.ndot k row (stM k A B xs (U.take i))) := by unfold imgM; rw [List.getElem?_map, hrw]; rfl
      rw [take_snoc e]
      exact pd_snoc (pd_rn g8 pr) r8
    rintro ys H8 ⟨g8, pr⟩ pn hpn
    rw [List.length_map, List.take_of_length_le (by unfold imgM; rw [List.length_map, oM.c.len]; omega)] at pr
    have npn : pd ≠ pn := fun e => by rw [← e, g8 _ _ hpd7] at hpn; cases hpn
    have hpd8 : upd H8 pn (.lst ys) pd = some (.lst (rd.map V.ref)) := by rw [upd_ne npn]; exact g8 _ _ hpd7
    have e1 := pd_len G.rows
    rw [List.length_take, runM_len] at e1
    refine ⟨pd, _, _, rfl, rfl, hpd8, (by rw [List.length_map]; omega), ?_⟩
    obtain ⟨G2, nm2⟩ := G.push (zs' := (rd.map V.ref) ++ [.ref pn]) hpd hpd7 npd7 g8 hpn pr
    have hah2 : RowAt (upd (upd H8 pn (.lst ys)) pd (.lst ((rd.map V.ref) ++ [.ref pn]))) (stM k A B xs (U.take i)) ah := ((hah.mono g8).mono (same_new hpn _)).upd nah hpd8
    have hpd9 : upd (upd H8 pn (.lst ys)) pd (.lst ((rd.map V.ref) ++ [.ref pn])) pd = some (.lst ((rd ++ [pn]).map V.ref)) := by rw [upd_same, List.map_append]; rfl
    rw [← take_snoc (runM_get (by omega : i ≤ U.length))] at G2
    generalize upd (upd H8 pn (.lst ys)) pd (.lst ((rd.map V.ref) ++ [.ref pn])) = H9 at *
    clear g8 pr hpn npn hpd8 e1 G M7
    have M9 := hM.mono G2.same
    have hrow9 : RowAt H9 u a := by
      have := hU.mono G2.same
      exact pd_get this.2 hu ha
    refine ⟨_, rfl, _, rfl, _, rfl, _, rfl, k, A, B, C, stM k A B xs (U.take i), u, mN c, mH c, mS c, 20000, pm, ta, tb, tc, ah, a, ra, rb, rc, rfl, hk, M9, hah2, hrow9, oM', rst, ru1, (by decide), hsz, fun p5 H10 g10 nr5 => ?_⟩
    refine ⟨_, rfl, _, rfl, _, rfl, _, rfl, _, rfl, _, rfl, k, A, B, C, stM k A B xs (U.take i), u, mN c, mH c, mS c, 20000, pm, ta, tb, tc, ah, a, ra, rb, rc, rfl, hk, M9.mono g10, hah2.mono g10, hrow9.mono g10, oM', rst, ru1, (by decide), (by have : mMost = 5 := rfl; omega), fun p6 H11 g11 nr6 => ?_⟩
    rw [← stM_snoc, ← take_snoc hu] at nr5 nr6
    refine ⟨k, _, p5, p6, rfl, hk, nr5.row.mono g11, nr6.row, (st (i + 1) (by omega)).ok, _, rfl, iteF ?_⟩
    have n5 : p5 ≠ pd := fun e => by have := nr5.fa; rw [e, hpd9] at this; cases this
    exact ⟨_, rfl, p5, rd ++ [pn], _, _, rfl, nr5.row.mono g11, n5, G2.mono (g10.trans g11), g11 _ _ (g10 _ _ hpd9), nm2⟩
  rintro σ H7 ⟨ah, rd, o8, o9, rfl, hah, nah, G, hpd7, npd7⟩
  rw [List.length_map, ← lU] at hah G
  have rst := st U.length (Nat.le_refl _)
  have M7 := hM.mono G.same
  -- the last one due
  refine ⟨_, rfl, .inl ⟨rfl, _, SqL.of hpd7⟩, _, rfl, pm, _, _, _, rfl, rfl, SqT.of M7.tup, rfl, tc, rfl, ⟨_, SqL.of M7.c.1⟩, ?_⟩
  refine comp_list (xs := rc.map V.ref) (fun j ys H' => Same H7 H' ∧ Paired (RN H') ((imgM k C (stM k A B xs (U.take U.length))).take j) ys) ⟨Same.refl _, .nil⟩ ?_ ?_ ?_
  · rintro j ys H' hj ⟨g, pr⟩
    refine ⟨SqL.of (g _ _ M7.c.1), ?_⟩
    have := pd_len pr
    rw [List.length_take] at this
    rw [List.length_map] at hj; omega
  · rintro j v ys H' hv' hj ⟨g, pr⟩
    obtain ⟨row, ar, hrw, har, rfl, hR⟩ := (M7.c.mono g).row hv'
    have rr := (oM'.c.row (List.mem_of_getElem? hrw)).up (show (20000 : Nat) ≤ 100000 by decide)
    have rst' := rst.up (show (20000 : Nat) ≤ 100000 by decide)
    first | refine gyes ?_ | refine tyes ?_
    refine ⟨_, rfl, _, rfl, _, rfl, k, row, _, ar, ah, rfl, hk, hR, hah.mono g, rr.ok, rst.ok, by rw [rr.len, rst.len], by rw [rr.len]; have : mMost = 5 := rfl; omega, rr.sz, rst'.sz, fun v8 H8 g8 r8 => nxt hj ⟨g.trans g8, ?_⟩⟩
    have e : (imgM k C (stM k A B xs (U.take U.length)))[j]? = some (La.ndot k row (stM k A B xs (U.take U.length))) := by unfold imgM; rw [List.getElem?_map, hrw]; rfl
    rw [take_snoc e]
    exact pd_snoc (pd_rn g8 pr) r8
  rintro ys H8 ⟨g8, pr⟩ pn hpn
  rw [List.length_map, List.take_of_length_le (by unfold imgM; rw [List.length_map, oM.c.len]; omega)] at pr
  have npn : pd ≠ pn := fun e => by rw [← e, g8 _ _ hpd7] at hpn; cases hpn
  have hpd8 : upd H8 pn (.lst ys) pd = some (.lst (rd.map V.ref)) := by rw [upd_ne npn]; exact g8 _ _ hpd7
  have e1 := pd_len G.rows
  rw [List.length_take, runM_len] at e1
  refine ⟨pd, _, _, rfl, rfl, hpd8, (by rw [List.length_map]; omega), ?_⟩
  obtain ⟨G2, nm2⟩ := G.push (zs' := (rd.map V.ref) ++ [.ref pn]) hpd hpd7 npd7 g8 hpn pr
  have hah2 : RowAt (upd (upd H8 pn (.lst ys)) pd (.lst ((rd.map V.ref) ++ [.ref pn]))) (stM k A B xs (U.take U.length)) ah := ((hah.mono g8).mono (same_new hpn _)).upd nah hpd8
  have hpd9 : upd (upd H8 pn (.lst ys)) pd (.lst ((rd.map V.ref) ++ [.ref pn])) pd = some (.lst ((rd ++ [pn]).map V.ref)) := by rw [upd_same, List.map_append]; rfl
  rw [← take_snoc (runM_get (Nat.le_refl U.length)), List.take_of_length_le (by rw [runM_len]; exact Nat.le_refl _)] at G2
  generalize upd (upd H8 pn (.lst ys)) pd (.lst ((rd.map V.ref) ++ [.ref pn])) = H9 at *
  generalize rd ++ [pn] = rd at *
  clear g8 pr hpn npn hpd8 e1 G M7 hah hpd7 npd7
  have M9 := hM.mono G2.same
  -- seen, told
  refine ⟨_, rfl, _, rfl, _, rfl, k, A, B, C, stM k A B xs (U.take U.length), mN c, mH c, mS c, 20000, pm, ta, tb, tc, ah, ra, rb, rc, rfl, hk, M9, hah2, oM', rst, (by decide), hsz, (by omega), fun ps H10 g10 ns => ?_⟩
  refine ⟨_, rfl, _, rfl, _, rfl, _, rfl, k, A, B, C, xs, U, mN c, mH c, mS c, 20000, pm, ta, tb, tc, ax, tu, ra, rb, rc, ru, rfl, hk, M9.mono g10, (hx.mono G2.same).mono g10, (hU.mono G2.same).mono g10, oM', oU', st, (by decide), hsz, (by omega), (by omega), fun pt rt H11 g11 nt => ?_⟩
  have hpd11 := g11 _ _ (g10 _ _ hpd9)
  have hU11 := ((hU.mono G2.same).mono g10).mono g11
  have lrd := pd_len G2.rows
  have lrt := pd_len nt.tab.2
  rw [runM_len] at lrd lrt
  have D11 := pd_imp (fun _ _ r => RowAt.mono r (g10.trans g11)) G2.rows
  have iz : ∀ i, i ≤ U.length → ROk k (mS c) (7 + mN c * (20000 + 20000 + 1)) (imgM k C (stM k A B xs (U.take i))) := fun i hi => img_rok hk (by decide) oM'.c (st i hi)
  obtain ⟨dl, hdl, rdl⟩ := pd_left D11 (runM_get (k := k) (A := A) (B := B) (C := C) (xs := xs) (Nat.le_refl U.length))
  refine ⟨_, rfl, _, rfl, _, rfl, _, rfl, tu, _, rfl, .inl (SqL.of hU11.1), pd, _, _, _, rfl, rfl, SqL.of hpd11, (by rw [List.length_map, ← lU]; exact atI_nat (j := U.length) (by rw [List.getElem?_map, hdl]; rfl)), k, _, ps, dl, rfl, hk, ns.row.mono g11, rdl, (iz U.length (Nat.le_refl _)).ok, _, rfl, iteF ?_⟩
  refine ⟨_, rfl, _, _, _, _, rfl, TyOf.lst nt.tab.1, kit_ll K, _, rfl, iteF ?_⟩
  refine ⟨_, rfl, pt, _, rfl, .inl (SqL.of nt.tab.1), _, rfl, pd, _, rfl, .inl (SqL.of hpd11), rfl, _, rfl, ?_⟩
  rw [show (rt.map V.ref).length = (rd.map V.ref).length by rw [List.length_map, List.length_map]; omega, decide_eq_true rfl]
  refine iteF ?_
  -- one by one
  refine ⟨_, rfl, _, rfl, pt, pd, _, _, rfl, SqL.of nt.tab.1, SqL.of hpd11, ?_⟩
  refine for_zip (xs := rt.map V.ref) (zs := rd.map V.ref) (by rw [List.length_map, List.length_map]; omega) (fun i σ H' => ∃ o12 o13, σ = [some (.int k), some (.int c), some (.ref pm), some (.ref ax), some (.ref tu), some (.ref pk), some (.ref ah), some (.ref pd), o8, o9, some (.ref ps), some (.ref pt), o12, o13] ∧ AppsR H10 H' (runM k A B C xs U) rt i ∧ H' pt = some (.lst (rt.map V.ref))) ⟨_, _, rfl, AppsR.start g11 nt.tab.2, nt.tab.1⟩ ?_ ?_ ?_
  · rintro i σ H' _ ⟨o12, o13, rfl, AR, hpt⟩
    exact ⟨SqL.of hpt, SqL.of (AR.same _ _ (g10 _ _ hpd9))⟩
  · rintro i x z T σ H' hx' hz' hT ⟨o12, o13, rfl, AR, hpt⟩
    have g' := same_new hT (.tup [x, z])
    rw [List.getElem?_map] at hx' hz'
    obtain ⟨a, ha, rfl⟩ := Option.map_eq_some_iff.mp hx'
    obtain ⟨b, hb, rfl⟩ := Option.map_eq_some_iff.mp hz'
    have il : i ≤ U.length := by have := (List.getElem?_eq_some_iff.mp ha).1; omega
    have AR' := AR.mono g'
    have rw1 := AR'.rows i _ a (Nat.le_refl _) (runM_get il) ha
    have rw2 : RowAt (upd H' T (.tup [.ref a, .ref b])) (imgM k C (stM k A B xs (U.take i))) b := ((pd_get G2.rows (runM_get il) hb).mono g10).mono AR'.same
    have hpt' := g' _ _ hpt
    refine ⟨T, _, rfl, SqT.of upd_same, rfl, _, _, rfl, _, _, rfl, rfl, ?_⟩
    generalize upd H' T (.tup [.ref a, .ref b]) = H12 at *
    have ri := iz i il
    refine ⟨_, rfl, _, rfl, _, rfl, k, _, a, b, rfl, hk, rw1, rw2, ri.ok, _, rfl, iteF ?_⟩
    obtain ⟨us, hus, pus, lus⟩ := rw1.len
    have am := List.mem_of_getElem? ha
    refine ⟨_, rfl, .inl ⟨rfl, _, SqL.of hus⟩, a, us, _, rfl, rfl, hus, (by rw [lus, ri.len]; omega), ?_⟩
    exact ⟨_, _, rfl, AR'.step nt.nd (nt.fr a am) ha hus, by rw [upd_ne (fun e => nt.nt (by rw [e]; exact am))]; exact hpt'⟩
  rintro σ H12 ⟨o12, o13, rfl, AR, hpt⟩
  obtain ⟨us, hus, pus, lus⟩ := (ns.row.mono AR.same).len
  have ri := iz U.length (Nat.le_refl _)
  refine ⟨_, rfl, .inl ⟨rfl, _, SqL.of hus⟩, ps, us, _, rfl, rfl, hus, (by rw [lus, ri.len]; omega), ?_⟩
  have gz : Same Hk (upd H12 ps (.lst (us ++ [.non]))) := same_upd ((G2.same.trans g10).trans AR.same) (G2.same.none ns.fa)
  generalize upd H12 ps (.lst (us ++ [.non])) = H13 at *
  have M13 := hM.mono gz
  refine ⟨_, rfl, _, rfl, _, rfl, k, c, rfl, hk, fun p' ta' tb' tc' ra' rb' rc' H14 g14 hM' => ?_⟩
  rw [eA, eB, eC] at hM'
  refine ⟨machD A B C, machD A B C, (M13.mono g14).rp, hM'.rp, machD_lay _ _ _, machD_lay _ _ _, Nat.le_trans (Nat.min_le_left _ _) (Nat.le_trans (machD_depth _ _ _) (by decide)), _, rfl, ?_⟩
  rw [machD_self]
  refine iteT ?_
  have gy := gz.trans g14
  refine ⟨_, rfl, _, rfl, (by show 2 ≤ sizeLine; decide), fun pw hpw => ?_⟩
  have g15 := same_new hpw (.lst [.ref ax, .ref tu])
  have hpw' : upd H14 pw (.lst [.ref ax, .ref tu]) pw = some (.lst [.ref ax, .ref tu]) := upd_same
  generalize upd H14 pw (.lst [.ref ax, .ref tu]) = H15 at *
  have gw := gy.trans g15
  refine ⟨_, rfl, keptD xs U, keptD xs U, rp_list hpw' (rps_cons (hx.mono gw).rp (rps_cons (hU.mono gw).rp rps_nil)), rp_list (gw _ _ hK) (rps_cons (K1.mono gw).rp (rps_cons (K2.mono gw).rp rps_nil)), keptD_lay _ _, keptD_lay _ _, Nat.le_trans (Nat.min_le_left _ _) (Nat.le_trans (keptD_depth _ _) (by decide)), ?_⟩
  show Q (.bl (PyData.eqv (keptD xs U) (keptD xs U))) H15
  rw [keptD_self]
  exact q H15 (gU.trans gw)
/-! law -/
theorem cutN {ns : List Int} (N : Nat) : cutV (ns.map V.int) none (some (N : Int)) = (ns.take N).map V.int := by
  unfold cutV
  rw [HT.sIx_none, Nat.sub_zero, List.drop_zero, HT.sIx_nat, List.length_map, List.map_take]
  rcases Nat.lt_or_ge N ns.length with h | h
  · rw [Nat.min_eq_left (by omega)]
  · rw [Nat.min_eq_right (by omega), List.take_of_length_le (by rw [List.length_map]; exact Nat.le_refl _), List.take_of_length_le (by rw [List.length_map]; exact h)]
theorem ok_law {f : Addr} {fd : FuncData} (F : Fun K "law" "law" s_law f fd) (d__law_kind : Kn P w K mg base "_law_kind" 41 ["_law_drawn"] sp_kind) (d__law_mix : Kn P w K mg base "_law_mix" 1 ["_law_cell", "_law_j"] sp_mix) (d__law_right : Kn P w K mg base "_law_right" 48 ["_law_kind_here", "_law_cell"] sp_lright) :
    FnOk P w K mg base CX0 49 f fd ["_law_script"] (spLaw K) := by
  refine F.ok sc_law (fun vs H Q E h => ?_) (fun cdv A outer s H vs Q E hr h => ?_)
  · obtain ⟨a, ns, rfl, _⟩ := h; rfl
  obtain ⟨a, ns, rfl, hS, h63, q⟩ := h
  have szl : sizeLine = 16777216 := by decide
  refine ⟨_, (pss_cons (ps_for PassesOwn.never rfl (pi_listK (K := K) rfl (pe_op op_cat (pe_slice (sl_listK (K := K) rfl) (pv 0) po_none (po_some pe_int)) (pe_lst (pa_cons pe_int pa_nil)))) (pg_name (i := 1) sc_law.nd rfl (by first | exact Or.inl rfl | exact Or.inr rfl)) (pss_one (ps_if (pt_not (pt_val (pe_kn d__law_right (hr.mono (by decide)) rfl (pa_cons (pe_kn d__law_kind (hr.mono (by decide)) rfl (pa_cons (pe_kn d__law_mix (hr.mono (by decide)) rfl (pa_cons (pv 1) (pa_cons pe_int pa_nil))) pa_nil)) (pa_cons (pv 1) pa_nil))))) (pss_one (ps_ret pe_bl)) pss_nil))) (pss_one (ps_ret pe_bl))), ?_⟩
  refine ⟨_, rfl, _, rfl, a, _, rfl, hS, fun p1 hp1 => ?_⟩
  refine ⟨(by show 1 ≤ sizeLine; decide), fun p2 hp2 => ?_⟩
  have n12 : p1 ≠ p2 := fun e => by rw [e, upd_same] at hp2; cases hp2
  rw [show ((40 : Int)) = ((40 : Nat) : Int) from rfl, cutN 40] at *
  refine ⟨p1, p2, _, _, rfl, rfl, (by rw [upd_ne n12]; exact upd_same), upd_same, ?_, fun p3 hp3 => ?_⟩
  · rw [List.length_map, List.length_take]; show min 40 ns.length + 1 ≤ sizeLine; omega
  have e3 : (ns.take 40).map V.int ++ [V.int 0] = (ns.take 40 ++ [0]).map V.int := by simp
  rw [e3]
  refine ⟨p3, rfl, ⟨_, SqL.of upd_same⟩, ?_⟩
  generalize ns.take 40 ++ [0] = cs
  refine for_list (xs := cs.map V.int) (fun i σ H' => ∃ o1, σ = [some (.ref a), o1] ∧ H' p3 = some (.lst (cs.map V.int))) ⟨_, rfl, upd_same⟩ ?_ ?_ ?_
  · rintro i σ H' _ ⟨o1, rfl, h⟩
    exact SqL.of h
  · rintro i x σ H0 hx ⟨o1, rfl, h⟩
    rw [List.getElem?_map] at hx
    obtain ⟨n, _, rfl⟩ := Option.map_eq_some_iff.mp hx
    clear hx
    exact ⟨_, rfl, n, 1, rfl, (by decide), (by decide), _, rfl, fun k hk => ⟨_, rfl, k, n, rfl, hk, fun H1 g1 => ⟨_, rfl, iteF ⟨_, rfl, g1 _ _ h⟩⟩⟩⟩
  · rintro σ H' ⟨o1, rfl, h⟩
    exact q H'
end
end KL
open PySem PySem.W PyProof.Rows
set_option maxRecDepth 100000 in
set_option maxHeartbeats 0 in
theorem PySem.Challenge.cw_steermill_k11_turn_by_turn_holds : PySem.Challenge.rw_steermill_k11_turn_by_turn.Holds := by
  w_on; o_law; k_head; (case hw => w_witness2)
  k_fill
  refine L2.walk (l := PySem.Challenge.rw_steermill_k11_turn_by_turn) 49 rfl rfl ⟨rfl, by decide, by decide⟩ (by decide +kernel) (fun w h Y => PySem.W.kIn_of Y) ?F
  case F =>
    intro w mg fa h KX G hmg
    have df_common_divisor : L2.Df (L2.KOf KX) mg "common_divisor" ["one", "other"] KL.s_common_divisor := by
      dsimp only [L2.KOf]
      refine' L2.df_mk KX G ?a ?l ?c ?k ?b
      (case a => k_is); (case l => k_is); (case c => k_is); (case k => k_is)
      (case b => exact fun _ _ _ _ _ _ us hl => L2.bind2 (fun _ _ => rfl) us hl)
    have df_fraction : L2.Df (L2.KOf KX) mg "fraction" ["top", "bottom"] KL.s_fraction := by
      dsimp only [L2.KOf]
      refine' L2.df_mk KX G ?a ?l ?c ?k ?b
      (case a => k_is); (case l => k_is); (case c => k_is); (case k => k_is)
      (case b => exact fun _ _ _ _ _ _ us hl => L2.bind2 (fun _ _ => rfl) us hl)
    have df_one_over : L2.Df (L2.KOf KX) mg "one_over" ["prime", "rest"] KL.s_one_over := by
      dsimp only [L2.KOf]
      refine' L2.df_mk KX G ?a ?l ?c ?k ?b
      (case a => k_is); (case l => k_is); (case c => k_is); (case k => k_is)
      (case b => exact fun _ _ _ _ _ _ us hl => L2.bind2 (fun _ _ => rfl) us hl)
    have df_number : L2.Df (L2.KOf KX) mg "number" ["kind", "whole"] KL.s_number := by
      dsimp only [L2.KOf]
      refine' L2.df_mk KX G ?a ?l ?c ?k ?b
      (case a => k_is); (case l => k_is); (case c => k_is); (case k => k_is)
      (case b => exact fun _ _ _ _ _ _ us hl => L2.bind2 (fun _ _ => rfl) us hl)
    have df_over : L2.Df (L2.KOf KX) mg "over" ["kind", "one", "other"] KL.s_over := by
      dsimp only [L2.KOf]
      refine' L2.df_mk KX G ?a ?l ?c ?k ?b
      (case a => k_is); (case l => k_is); (case c => k_is); (case k => k_is)
      (case b => exact fun _ _ _ _ _ _ us hl => L2.bind3 (fun _ _ _ => rfl) us hl)
    have df_scaled : L2.Df (L2.KOf KX) mg "scaled" ["kind", "row"] KL.s_scaled := by
      dsimp only [L2.KOf]
      refine' L2.df_mk KX G ?a ?l ?c ?k ?b
      (case a => k_is); (case l => k_is); (case c => k_is); (case k => k_is)
      (case b => exact fun _ _ _ _ _ _ us hl => L2.bind2 (fun _ _ => rfl) us hl)
    have df_quotient : L2.Df (L2.KOf KX) mg "quotient" ["kind", "top", "bottom"] KL.s_quotient := by
      dsimp only [L2.KOf]
      refine' L2.df_mk KX G ?a ?l ?c ?k ?b
      (case a => k_is); (case l => k_is); (case c => k_is); (case k => k_is)
      (case b => exact fun _ _ _ _ _ _ us hl => L2.bind3 (fun _ _ _ => rfl) us hl)
    have df_whole_sum : L2.Df (L2.KOf KX) mg "whole_sum" ["one", "other"] KL.s_whole_sum := by
      dsimp only [L2.KOf]
      refine' L2.df_mk KX G ?a ?l ?c ?k ?b
      (case a => k_is); (case l => k_is); (case c => k_is); (case k => k_is)
      (case b => exact fun _ _ _ _ _ _ us hl => L2.bind2 (fun _ _ => rfl) us hl)
    have df_sum_of_products : L2.Df (L2.KOf KX) mg "sum_of_products" ["kind", "one", "other"] KL.s_sum_of_products := by
      dsimp only [L2.KOf]
      refine' L2.df_mk KX G ?a ?l ?c ?k ?b
      (case a => k_is); (case l => k_is); (case c => k_is); (case k => k_is)
      (case b => exact fun _ _ _ _ _ _ us hl => L2.bind3 (fun _ _ _ => rfl) us hl)
    have df_abreast : L2.Df (L2.KOf KX) mg "abreast" ["one", "other"] KL.s_abreast := by
      dsimp only [L2.KOf]
      refine' L2.df_mk KX G ?a ?l ?c ?k ?b
      (case a => k_is); (case l => k_is); (case c => k_is); (case k => k_is)
      (case b => exact fun _ _ _ _ _ _ us hl => L2.bind2 (fun _ _ => rfl) us hl)
    have df_image : L2.Df (L2.KOf KX) mg "image" ["kind", "table", "row"] KL.s_image := by
      dsimp only [L2.KOf]
      refine' L2.df_mk KX G ?a ?l ?c ?k ?b
      (case a => k_is); (case l => k_is); (case c => k_is); (case k => k_is)
      (case b => exact fun _ _ _ _ _ _ us hl => L2.bind3 (fun _ _ _ => rfl) us hl)
    have df_leading : L2.Df (L2.KOf KX) mg "leading" ["machine"] KL.s_leading := by
      dsimp only [L2.KOf]
      refine' L2.df_mk KX G ?a ?l ?c ?k ?b
      (case a => k_is); (case l => k_is); (case c => k_is); (case k => k_is)
      (case b => exact fun _ _ _ _ _ _ us hl => L2.bind1 (fun _ => rfl) us hl)
    have df_next_of : L2.Df (L2.KOf KX) mg "next_of" ["kind", "machine", "standing", "inputs"] KL.s_next_of := by
      dsimp only [L2.KOf]
      refine' L2.df_mk KX G ?a ?l ?c ?k ?b
      (case a => k_is); (case l => k_is); (case c => k_is); (case k => k_is)
      (case b => exact fun _ _ _ _ _ _ us hl => L2.bind4 (fun _ _ _ _ => rfl) us hl)
    have df_seen_of : L2.Df (L2.KOf KX) mg "seen_of" ["kind", "machine", "standing"] KL.s_seen_of := by
      dsimp only [L2.KOf]
      refine' L2.df_mk KX G ?a ?l ?c ?k ?b
      (case a => k_is); (case l => k_is); (case c => k_is); (case k => k_is)
      (case b => exact fun _ _ _ _ _ _ us hl => L2.bind3 (fun _ _ _ => rfl) us hl)
    have df_run : L2.Df (L2.KOf KX) mg "run" ["kind", "machine", "standing", "inputs"] KL.s_run := by
      dsimp only [L2.KOf]
      refine' L2.df_mk KX G ?a ?l ?c ?k ?b
      (case a => k_is); (case l => k_is); (case c => k_is); (case k => k_is)
      (case b => exact fun _ _ _ _ _ _ us hl => L2.bind4 (fun _ _ _ _ => rfl) us hl)
    have df__law_mix : L2.Df (L2.KOf KX) mg "_law_mix" ["_law_cell", "_law_j"] KL.s__law_mix := by
      dsimp only [L2.KOf]
      refine' L2.df_mk KX G ?a ?l ?c ?k ?b
      (case a => k_is); (case l => k_is); (case c => k_is); (case k => k_is)
      (case b => exact fun _ _ _ _ _ _ us hl => L2.bind2 (fun _ _ => rfl) us hl)
    have df__law_divisor : L2.Df (L2.KOf KX) mg "_law_divisor" ["_law_one", "_law_other"] KL.s__law_divisor := by
      dsimp only [L2.KOf]
      refine' L2.df_mk KX G ?a ?l ?c ?k ?b
      (case a => k_is); (case l => k_is); (case c => k_is); (case k => k_is)
      (case b => exact fun _ _ _ _ _ _ us hl => L2.bind2 (fun _ _ => rfl) us hl)
    have df__law_is_prime : L2.Df (L2.KOf KX) mg "_law_is_prime" ["_law_whole"] KL.s__law_is_prime := by
      dsimp only [L2.KOf]
      refine' L2.df_mk KX G ?a ?l ?c ?k ?b
      (case a => k_is); (case l => k_is); (case c => k_is); (case k => k_is)
      (case b => exact fun _ _ _ _ _ _ us hl => L2.bind1 (fun _ => rfl) us hl)
    have df__law_kind : L2.Df (L2.KOf KX) mg "_law_kind" ["_law_drawn"] KL.s__law_kind := by
      dsimp only [L2.KOf]
      refine' L2.df_mk KX G ?a ?l ?c ?k ?b
      (case a => k_is); (case l => k_is); (case c => k_is); (case k => k_is)
      (case b => exact fun _ _ _ _ _ _ us hl => L2.bind1 (fun _ => rfl) us hl)
    have df__law_lowest : L2.Df (L2.KOf KX) mg "_law_lowest" ["_law_top", "_law_bottom"] KL.s__law_lowest := by
      dsimp only [L2.KOf]
      refine' L2.df_mk KX G ?a ?l ?c ?k ?b
      (case a => k_is); (case l => k_is); (case c => k_is); (case k => k_is)
      (case b => exact fun _ _ _ _ _ _ us hl => L2.bind2 (fun _ _ => rfl) us hl)
    have df__law_number : L2.Df (L2.KOf KX) mg "_law_number" ["_law_kind_here", "_law_drawn"] KL.s__law_number := by
      dsimp only [L2.KOf]
      refine' L2.df_mk KX G ?a ?l ?c ?k ?b
      (case a => k_is); (case l => k_is); (case c => k_is); (case k => k_is)
      (case b => exact fun _ _ _ _ _ _ us hl => L2.bind2 (fun _ _ => rfl) us hl)
    have df__law_table : L2.Df (L2.KOf KX) mg "_law_table" ["_law_kind_here", "_law_cell", "_law_rows", "_law_columns", "_law_far"] KL.s__law_table := by
      dsimp only [L2.KOf]
      refine' L2.df_mk KX G ?a ?l ?c ?k ?b
      (case a => k_is); (case l => k_is); (case c => k_is); (case k => k_is)
      (case b => exact fun _ _ _ _ _ _ us hl => L2.bind5 (fun _ _ _ _ _ => rfl) us hl)
    have df__law_machine : L2.Df (L2.KOf KX) mg "_law_machine" ["_law_kind_here", "_law_cell"] KL.s__law_machine := by
      dsimp only [L2.KOf]
      refine' L2.df_mk KX G ?a ?l ?c ?k ?b
      (case a => k_is); (case l => k_is); (case c => k_is); (case k => k_is)
      (case b => exact fun _ _ _ _ _ _ us hl => L2.bind2 (fun _ _ => rfl) us hl)
    have df__law_sum : L2.Df (L2.KOf KX) mg "_law_sum" ["_law_kind_here", "_law_one", "_law_other"] KL.s__law_sum := by
      dsimp only [L2.KOf]
      refine' L2.df_mk KX G ?a ?l ?c ?k ?b
      (case a => k_is); (case l => k_is); (case c => k_is); (case k => k_is)
      (case b => exact fun _ _ _ _ _ _ us hl => L2.bind3 (fun _ _ _ => rfl) us hl)
    have df__law_next : L2.Df (L2.KOf KX) mg "_law_next" ["_law_kind_here", "_law_machine_here", "_law_standing", "_law_inputs"] KL.s__law_next := by
      dsimp only [L2.KOf]
      refine' L2.df_mk KX G ?a ?l ?c ?k ?b
      (case a => k_is); (case l => k_is); (case c => k_is); (case k => k_is)
      (case b => exact fun _ _ _ _ _ _ us hl => L2.bind4 (fun _ _ _ _ => rfl) us hl)
    have df__law_is : L2.Df (L2.KOf KX) mg "_law_is" ["_law_kind_here", "_law_found", "_law_due"] KL.s__law_is := by
      dsimp only [L2.KOf]
      refine' L2.df_mk KX G ?a ?l ?c ?k ?b
      (case a => k_is); (case l => k_is); (case c => k_is); (case k => k_is)
      (case b => exact fun _ _ _ _ _ _ us hl => L2.bind3 (fun _ _ _ => rfl) us hl)
    have df__law_right : L2.Df (L2.KOf KX) mg "_law_right" ["_law_kind_here", "_law_cell"] KL.s__law_right := by
      dsimp only [L2.KOf]
      refine' L2.df_mk KX G ?a ?l ?c ?k ?b
      (case a => k_is); (case l => k_is); (case c => k_is); (case k => k_is)
      (case b => exact fun _ _ _ _ _ _ us hl => L2.bind2 (fun _ _ => rfl) us hl)
    have m_abs : mg "abs" = none := by
      refine' PySem.W.mg_none_of KX G ?z
      (case z => k_is)
    have m_bool : mg "bool" = none := by
      refine' PySem.W.mg_none_of KX G ?z
      (case z => k_is)
    have m_int : mg "int" = none := by
      refine' PySem.W.mg_none_of KX G ?z
      (case z => k_is)
    have m_isinstance : mg "isinstance" = none := by
      refine' PySem.W.mg_none_of KX G ?z
      (case z => k_is)
    have m_len : mg "len" = none := by
      refine' PySem.W.mg_none_of KX G ?z
      (case z => k_is)
    have m_list : mg "list" = none := by
      refine' PySem.W.mg_none_of KX G ?z
      (case z => k_is)
    have m_range : mg "range" = none := by
      refine' PySem.W.mg_none_of KX G ?z
      (case z => k_is)
    have m_sum : mg "sum" = none := by
      refine' PySem.W.mg_none_of KX G ?z
      (case z => k_is)
    have m_tuple : mg "tuple" = none := by
      refine' PySem.W.mg_none_of KX G ?z
      (case z => k_is)
    have m_zip : mg "zip" = none := by
      refine' PySem.W.mg_none_of KX G ?z
      (case z => k_is)
    have dl : ∃ fd : FuncData, L2.Fun (L2.KOf KX) "law" "law" KL.s_law fa fd ∧ ∀ (s : Shared) (v : Value), BindsTo s fd ⟨[v], []⟩ [("_law_script", v)] := by
      dsimp only [L2.KOf]
      refine' L2.law_mk KX G hmg ?a ?l ?c ?k ?b
      (case a => k_is); (case l => k_is); (case c => k_is); (case k => k_is)
      (case b => exact fun _ _ _ _ _ _ _ => rfl)
    obtain ⟨fd, FL, hb⟩ := dl
    refine ⟨fd, hb, fun base _ _ hS => ?_⟩
    have hP : (PySem.Challenge.rw_steermill_k11_turn_by_turn).prog.given.tree = none := rfl
    have a1 := KL.kn_cd (P := (PySem.Challenge.rw_steermill_k11_turn_by_turn).prog) (w := w) (base := base) df_common_divisor m_abs
    have a2 := KL.kn_fraction hP hS df_fraction a1
    have a3 := KL.kn_one_over (P := (PySem.Challenge.rw_steermill_k11_turn_by_turn).prog) (w := w) (base := base) hP hS df_one_over
    have a4 := KL.kn_number (P := (PySem.Challenge.rw_steermill_k11_turn_by_turn).prog) (w := w) (base := base) df_number
    have a8 := KL.kn_over df_over a2 a4 a3
    have a9 := KL.kn_scaled hP hS df_scaled a1 m_list
    have a10 := KL.kn_quot df_quotient a8 a4
    have a10w := KL.kn_wsum (P := (PySem.Challenge.rw_steermill_k11_turn_by_turn).prog) (w := w) (base := base) df_whole_sum m_sum m_zip
    have a11 := KL.kn_sop df_sum_of_products a10 a10w
    have a14 := KL.kn_image df_image a9 a11
    have a15b := KL.kn_abreast (P := (PySem.Challenge.rw_steermill_k11_turn_by_turn).prog) (w := w) (base := base) df_abreast m_zip
    have a15l := KL.kn_leading df_leading a15b
    have a15 := KL.kn_next df_next_of a14 a15l
    have a16 := KL.kn_seen df_seen_of a14
    have a17 := KL.kn_run df_run a15 a16
    have b2 := KL.kn_is_prime (P := (PySem.Challenge.rw_steermill_k11_turn_by_turn).prog) (w := w) (base := base) df__law_is_prime
    have b3 := KL.kn_kind hP hS df__law_kind b2
    have b4 := KL.kn_div (P := (PySem.Challenge.rw_steermill_k11_turn_by_turn).prog) (w := w) (base := base) df__law_divisor m_abs
    have b5 := KL.kn_mix (P := (PySem.Challenge.rw_steermill_k11_turn_by_turn).prog) (w := w) (base := base) df__law_mix
    have b6 := KL.kn_lowest hP hS df__law_lowest b4
    have b7 := KL.kn_lnumber hP hS df__law_number b6 m_int
    have b8 := KL.kn_ltable df__law_table b7 b5 m_range
    have b9 := KL.kn_lmach df__law_machine b5 b8
    have b10 := KL.kn_lsum df__law_sum b6 m_sum m_zip
    have b11 := KL.kn_lnext df__law_next b10 m_zip
    have b12 := KL.kn_lis (P := (PySem.Challenge.rw_steermill_k11_turn_by_turn).prog) (w := w) (base := base) df__law_is m_isinstance m_list m_bool m_tuple
    have b13 := KL.kn_lright df__law_right b9 b8 b5 b10 a15 b11 b12 a16 a17 m_len m_list m_isinstance m_zip
    exact KL.ok_law FL b3 b5 b13
#print axioms PySem.Challenge.cw_steermill_k11_turn_by_turn_holds
