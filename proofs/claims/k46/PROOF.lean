import PyProof.Rows.All
import Wide.All
import OpenK.AllK
import Wide.FinOn
import Lean
import PyProof.EqAt
import PyProof.EqKinds
import PyProof.TupleCall
import PySem.Challenge.RW_borderfloor_k46_cells_across
set_option Elab.async false
set_option linter.all false
set_option maxRecDepth 100000
/-! THE HAND LAYER, for ints, bools, texts, own classes, LISTS and tuples (index, slices, in, append, pop ..), calls, loops. Paste it whole ahead of your own text; what your proof does not reach may be deleted. -/
namespace L2
open PySem PySem.Spec PyProof.Rows

/-- a key: an int or a str -/
abbrev Key := Sum Int Str
def keyIs : Key → Value → Bool
  | .inl k, v => Value.isInt k v
  | .inr x, v => Value.isStrOf x v
def keyH (w : World) : Key → Int
  | .inl k => hashInt k
  | .inr x => hashStr w x
theorem keyIs_shape : ∀ {k : Key} {v : Value}, keyIs k v = true → (∃ i t, k = Sum.inl i ∧ v = Value.int i t) ∨ (∃ x t, k = Sum.inr x ∧ v = Value.str x t)
  | .inl i, v, h => by
    obtain ⟨t, e⟩ := Value.isInt_shape (k := i) (v := v) h
    exact .inl ⟨i, t, rfl, e⟩
  | .inr x, v, h => by
    obtain ⟨t, e⟩ := Value.isStrOf_shape (x := x) (v := v) h
    exact .inr ⟨x, t, rfl, e⟩
theorem keyIs_int (i : Int) (t : Tok) : keyIs (.inl i) (.int i t) = true := by simp [keyIs, Value.isInt]
theorem keyIs_str (x : Str) (t : Tok) : keyIs (.inr x) (.str x t) = true := by simp [keyIs, Value.isStrOf]
theorem key_ll (a b : Int) : decide ((Sum.inl a : Key) = Sum.inl b) = (a == b) := by
  by_cases e : a = b
  · subst e; simp
  · have h : ¬ (Sum.inl a : Key) = Sum.inl b := fun q => e (Sum.inl.inj q)
    rw [decide_eq_false h]
    exact (beq_eq_false_iff_ne.mpr e).symm
theorem key_rr (a b : Str) : decide ((Sum.inr a : Key) = Sum.inr b) = decide (a = b) := by
  by_cases e : a = b
  · subst e; simp
  · have h : ¬ (Sum.inr a : Key) = Sum.inr b := fun q => e (Sum.inr.inj q)
    rw [decide_eq_false h, decide_eq_false e]
theorem key_lr (a : Int) (b : Str) : decide ((Sum.inl a : Key) = Sum.inr b) = false := decide_eq_false (fun q => nomatch q)
theorem key_rl (a : Str) (b : Int) : decide ((Sum.inr a : Key) = Sum.inl b) = false := decide_eq_false (fun q => nomatch q)

def mixKind (prog : Program) (w : World) : PySem.KeyKind prog w Key where
  is := keyIs
  hash := keyH w
  inj := fun v a b ha hb => by
    rcases keyIs_shape ha with ⟨i, t, rfl, rfl⟩ | ⟨x, t, rfl, rfl⟩
    · rcases keyIs_shape hb with ⟨j, u, rfl, e⟩ | ⟨y, u, rfl, e⟩
      · injection e with e1 _; rw [e1]
      · exact nomatch e
    · rcases keyIs_shape hb with ⟨j, u, rfl, e⟩ | ⟨y, u, rfl, e⟩
      · exact nomatch e
      · injection e with e1 _; rw [e1]
  byValue := fun k v h => by
    rcases keyIs_shape h with ⟨i, t, rfl, rfl⟩ | ⟨x, t, rfl, rfl⟩ <;> rfl
  pyHash := fun hv h => by
    rcases keyIs_shape hv with ⟨i, t, rfl, rfl⟩ | ⟨x, t, rfl, rfl⟩
    · exact wpAny_pyHash_int h
    · exact wpAny_pyHash_str h
  eqBool := fun hu hv h => by
    rcases keyIs_shape hu with ⟨i, t, rfl, rfl⟩ | ⟨x, t, rfl, rfl⟩
    · rcases keyIs_shape hv with ⟨j, u, rfl, rfl⟩ | ⟨y, u, rfl, rfl⟩
      · rw [key_ll] at h; exact wpAny_eqBool_int h
      · rw [key_lr] at h; exact SeqAt.EqAt.int_str i t y u _ _ _ _ h
    · rcases keyIs_shape hv with ⟨j, u, rfl, rfl⟩ | ⟨y, u, rfl, rfl⟩
      · rw [key_rl] at h; exact SeqAt.EqAt.str_int x t j u _ _ _ _ h
      · rw [key_rr] at h; exact wpAny_eqBool_str h
  «strs» := fun k x t v h => by
    rcases keyIs_shape h with ⟨i, u, rfl, e⟩ | ⟨y, u, rfl, e⟩
    · exact nomatch e
    · injection e with e1 _
      subst e1
      cases v <;> rfl

theorem mixKind_int (prog : Program) (w : World) (i : Int) (t : Tok) : (mixKind prog w).is (.inl i) (.int i t) = true := keyIs_int i t
theorem mixKind_str (prog : Program) (w : World) (x : Str) (t : Tok) : (mixKind prog w).is (.inr x) (.str x t) = true := keyIs_str x t
end L2

namespace L2
open PySem PySem.Spec PyProof.Rows

/-- a value, without the heap -/
inductive V where
  | non | bl (b : Bool) | int (i : Int) | str (x : Str) | byt (b : Array UInt8) | flt (b : UInt64) | ref (a : Addr) | ty (n : String)
  deriving DecidableEq

def RelV : V → Value → Prop
  | .non, u => u = Value.none
  | .bl b, u => u = Value.bool b
  | .int i, u => ∃ t, u = Value.int i t
  | .str x, u => ∃ t, u = Value.str x t
  | .byt b, u => ∃ t, u = Value.bytes b t
  | .flt b, u => ∃ t, u = Value.float b t
  | .ref a, u => u = Value.ref a
  | .ty n, u => u = Value.type n

abbrev Vals : List V → List Value → Prop := Paired RelV
theorem Vals.length {xs : List V} {us : List Value} (r : Vals xs us) : xs.length = us.length := Paired.length r
theorem Vals.get : ∀ {xs : List V} {us : List Value} {i : Nat} {x : V}, Vals xs us → xs[i]? = some x → ∃ u, us[i]? = some u ∧ RelV x u
  | _, _, _, _, .nil, e => by simp at e
  | _, _, 0, _, .cons r _, e => by simp at e; subst e; exact ⟨_, rfl, r⟩
  | _, _, i + 1, x, .cons _ t, e => by
    obtain ⟨u, h1, h2⟩ := Vals.get (i := i) (x := x) t (by simpa using e)
    exact ⟨u, by simpa using h1, h2⟩
theorem Vals.set {x : V} {u : Value} (r : RelV x u) : ∀ {xs : List V} {us : List Value} (i : Nat), Vals xs us → Vals (xs.set i x) (us.set i u)
  | _, _, _, .nil => .nil
  | _, _, 0, .cons _ t => .cons r t
  | _, _, i + 1, .cons q t => .cons q (Vals.set r i t)
theorem Vals.append : ∀ {xs ys : List V} {us ws : List Value}, Vals xs us → Vals ys ws → Vals (xs ++ ys) (us ++ ws)
  | _, _, _, _, .nil, s => s
  | _, _, _, _, .cons r t, s => .cons r (Vals.append t s)
theorem Vals.take : ∀ {xs : List V} {us : List Value} (n : Nat), Vals xs us → Vals (xs.take n) (us.take n)
  | _, _, 0, _ => .nil
  | _, _, _ + 1, .nil => .nil
  | _, _, n + 1, .cons r t => .cons r (Vals.take n t)
theorem Vals.drop : ∀ {xs : List V} {us : List Value} (n : Nat), Vals xs us → Vals (xs.drop n) (us.drop n)
  | _, _, 0, r => r
  | _, _, _ + 1, .nil => .nil
  | _, _, n + 1, .cons _ t => Vals.drop n t
theorem Vals.none_of : ∀ {xs : List V} {us : List Value} {i : Nat}, Vals xs us → xs[i]? = none → us[i]? = none := fun {xs us i} r e => by
  have h1 := r.length
  have h2 : xs.length ≤ i := List.getElem?_eq_none_iff.mp e
  exact List.getElem?_eq_none_iff.mpr (by omega)

def RelO : Option V → Option Value → Prop
  | some v, some u => RelV v u
  | none, none => True
  | _, _ => False
def KV {κ : Type} : List (κ × V) → List (κ × Value) → Prop := Paired fun (p : κ × V) (q : κ × Value) => p.1 = q.1 ∧ RelV p.2 q.2

/-- a key of a dict (00_mix): an int or a text -/
def kV : Key → V
  | .inl i => .int i
  | .inr x => .str x

/-- what stands at a tracked address -/
inductive HO where
  /-- a list -/
  | lst (xs : List V)
  /-- a tuple (never changes) -/
  | tup (xs : List V)
  /-- a dict whose keys are ints and texts; one whose keys are tuples of ints and texts (the empty one is both) -/
  | dK (kvs : List (Key × V)) | dT (kvs : List (List Key × V))
  /-- a set of ints: its members, its size -/
  | set (S : Int → Bool) (n : Nat)
  /-- an instance of the class at C, its dict at dx, its attributes -/
  | ins (C dx : Addr) (fs : List (Str × V))
  /-- the dict of the instance at x -/
  | own (x : Addr)
  /-- the dict of an exception -/
  | xd (fs : List (Str × V))
  /-- a bound method, f of x -/
  | met (f x : Addr)
  /-- a range object lo, lo + 1, .. below hi -/
  | rng (lo hi : Int)
  /-- a thing that is known to the object (the script; a dict while a loop walks it): read, never written while it is so -/
  | frz (o : Obj) (u : HO)
  /-- a code object's table -/
  | tbl (ps : Array Value)
  /-- any other thing, by what is true of its one object (a def of one's own: SetO a S n := HO.ext fun h => ..) -/
  | ext (φ : Heap → Prop)

abbrev Hp := Addr → Option HO
def upd (H : Hp) (a : Addr) (o : HO) : Hp := fun b => if b = a then some o else H b
theorem upd_same {H : Hp} {a : Addr} {o : HO} : upd H a o a = some o := by unfold upd; rw [if_pos rfl]
theorem upd_ne {H : Hp} {a b : Addr} {o : HO} (h : b ≠ a) : upd H a o b = H b := by unfold upd; rw [if_neg h]
/-- two objects of different content stand apart -/
theorem ne_of {H : Hp} {a b : Addr} {o u : HO} (h : H a = some o) (h' : H b = some u) (d : o ≠ u) : a ≠ b := by
  intro e; subst e; rw [h] at h'; exact d (Option.some.inj h')
theorem ne_of_none {H : Hp} {a b : Addr} {o : HO} (h : H a = some o) (h' : H b = none) : a ≠ b := by
  intro e; subst e; rw [h] at h'; cases h'

section
variable (P : Program) (w : World)
def ObjOk (H : Hp) (h : Heap) (a : Addr) : HO → Prop
  | .lst xs => xs.length ≤ sizeLine ∧ ∃ (its : List Value) (n : Nat), Vals xs its ∧ h.get? a = some { cls := .type "list", data := .seq its.toArray n }
  | .tup xs => xs.length ≤ sizeLine ∧ ∃ its : List Value, Vals xs its ∧ IsTup h a its.toArray
  | .dK kvs => kvs.length ≤ sizeLine ∧ (a == sysModules) = false ∧ ∃ vs, KV kvs vs ∧ h.DictOf (mixKind P w) a vs
  | .dT kvs => kvs.length ≤ sizeLine ∧ (a == sysModules) = false ∧ ∃ xs : List (List Key × Addr × Value),
      Paired (fun (p : List Key × V) (q : List Key × Addr × Value) => p.1 = q.1 ∧ H q.2.1 = some (.tup (p.1.map kV)) ∧ RelV p.2 q.2.2) kvs xs ∧
      ∃ o es ep, h.get? a = some o ∧ o.ExactDict ∧ o.data = .dict es ep ∧ es.toList = xs.map (entryOfKey (tupleKind (mixKind P w))) ∧ (xs.map (·.1)).Nodup
  | .set S n => h.SetOf (intKind P w) a S n
  | .ins C dx fs => H dx = some (.own a) ∧ fs.length ≤ 1000 ∧ dx ≠ a ∧ h.get? a = some (PySem.W.instObj C dx) ∧
      ∃ mA, h.Ns1 dx mA ∧ (∀ f, RelO (fs.lookup f) (mA f)) ∧ PySem.Within mA (fs.map (·.1))
  | .own _ => ∃ o, h.get? a = some o
  | .xd fs => ∃ mA, h.Ns1 a mA ∧ ∀ f, RelO (fs.lookup f) (mA f)
  | .rng lo hi => ∃ t u v, h.get? a = some { cls := .type "range", data := .fields #[.int lo t, .int hi u, .int 1 v] }
  | .frz o u => h.get? a = some o ∧ ObjOk H h a u
  | .tbl ps => h.get? a = some { cls := .none, data := .fields ps }
  | .met f x => h.get? a = some (PySem.W.methodObj (.ref f) (.ref x))
  | .ext φ => φ h ∧ (∃ o, h.get? a = some o) ∧ ∀ h1 h2 : Heap, φ h1 → (∀ o, h1.get? a = some o → h2.get? a = some o) → φ h2
/-- the abstract heap is held -/
def HOk (H : Hp) (h : Heap) : Prop := ∀ a o, H a = some o → ObjOk P w H h a o
end

section
variable {P : Program} {w : World} {H H' : Hp} {h h' : Heap} {a : Addr} {o : HO}
theorem ObjOk.lt (x : ObjOk P w H h a o) : a < h.objs.size := by
  cases o with
  | lst xs => obtain ⟨_, _, _, _, e⟩ := x; exact Heap.lt_size e
  | tup xs => obtain ⟨_, _, _, p⟩ := x; exact p.lt
  | dK kvs => obtain ⟨_, _, _, _, o, _, _, e, _⟩ := x; exact Heap.lt_size e
  | dT kvs => obtain ⟨_, _, _, _, o, _, _, e, _⟩ := x; exact Heap.lt_size e
  | set S n => obtain ⟨o, _, _, _, e, _⟩ := x; exact Heap.lt_size e
  | ins C dx fs => obtain ⟨_, _, _, e, _⟩ := x; exact Heap.lt_size e
  | own y => obtain ⟨_, e⟩ := x; exact Heap.lt_size e
  | xd fs => obtain ⟨_, ⟨_, _, _, e, _⟩, _⟩ := x; exact Heap.lt_size e
  | rng lo hi => obtain ⟨_, _, _, e⟩ := x; exact Heap.lt_size e
  | frz ob u => obtain ⟨e, _⟩ := x; exact Heap.lt_size e
  | tbl ps => exact Heap.lt_size (show h.get? a = some _ from x)
  | met f y => exact Heap.lt_size (show h.get? a = some _ from x)
  | ext φ => obtain ⟨_, ⟨_, e⟩, _⟩ := x; exact Heap.lt_size e
theorem Paired.mapP {α β : Type} {F G : α → β → Prop} : ∀ {l₁ : List α} {l₂ : List β}, Paired F l₁ l₂ → (∀ a b, F a b → G a b) → Paired G l₁ l₂
  | _, _, .nil, _ => .nil
  | _, _, .cons r t, f => .cons (f _ _ r) (Paired.mapP t f)
/-- what an object's description leans on: its own object, its own dict, the tuples -/
theorem ObjOk.stay (x : ObjOk P w H h a o) (k : ∀ b u, (b = a ∨ H b = some (.own a)) → h.get? b = some u → h'.get? b = some u)
    (ho : ∀ b, H b = some (.own a) → H' b = some (.own a)) (ht : ∀ b xs, H b = some (.tup xs) → H' b = some (.tup xs)) : ObjOk P w H' h' a o := by
  induction o with
  | lst xs => obtain ⟨z, its, n, r, e⟩ := x; exact ⟨z, its, n, r, k _ _ (.inl rfl) e⟩
  | tup xs => obtain ⟨z, its, r, ob, e, c⟩ := x; exact ⟨z, its, r, ob, k _ _ (.inl rfl) e, c⟩
  | dK kvs => obtain ⟨z, y, vs, r, ob, es, ep, e, c⟩ := x; exact ⟨z, y, vs, r, ob, es, ep, k _ _ (.inl rfl) e, c⟩
  | dT kvs =>
    obtain ⟨z, y, xs, r, ob, es, ep, e, c⟩ := x
    exact ⟨z, y, xs, Paired.mapP r fun p q z => ⟨z.1, ht _ _ z.2.1, z.2.2⟩, ob, es, ep, k _ _ (.inl rfl) e, c⟩
  | set S n => obtain ⟨ob, es, ep, t, e, c⟩ := x; exact ⟨ob, es, ep, t, k _ _ (.inl rfl) e, c⟩
  | ins C dx fs =>
    obtain ⟨d, z, ne, e, mA, ⟨od, es, ep, e2, c⟩, r⟩ := x
    exact ⟨ho _ d, z, ne, k _ _ (.inl rfl) e, mA, ⟨od, es, ep, k _ _ (.inr d) e2, c⟩, r⟩
  | own y => obtain ⟨ob, e⟩ := x; exact ⟨ob, k _ _ (.inl rfl) e⟩
  | xd fs => obtain ⟨mA, ⟨od, es, ep, e, c⟩, r⟩ := x; exact ⟨mA, ⟨od, es, ep, k _ _ (.inl rfl) e, c⟩, r⟩
  | rng lo hi => obtain ⟨t, u, v, e⟩ := x; exact ⟨t, u, v, k _ _ (.inl rfl) e⟩
  | frz ob u ih => obtain ⟨e, q⟩ := x; exact ⟨k _ _ (.inl rfl) e, ih q⟩
  | tbl ps =>
    have e : h.get? a = some { cls := .none, data := .fields ps } := x
    show h'.get? a = some { cls := .none, data := .fields ps }
    exact k a _ (.inl rfl) e
  | met f y =>
    have e : h.get? a = some (PySem.W.methodObj (.ref f) (.ref y)) := x
    show h'.get? a = some (PySem.W.methodObj (.ref f) (.ref y))
    exact k a _ (.inl rfl) e
  | ext φ => obtain ⟨p, ⟨o, e⟩, st⟩ := x; exact ⟨st _ _ p fun o q => k _ _ (.inl rfl) q, ⟨o, k _ _ (.inl rfl) e⟩, st⟩
theorem HOk.lt (x : HOk P w H h) (e : H a = some o) : a < h.objs.size := (x a o e).lt
theorem HOk.fresh (x : HOk P w H h) (e : h.objs.size ≤ a) : H a = none := by
  cases q : H a with
  | none => rfl
  | some u => exact absurd (Nat.lt_of_lt_of_le (x.lt q) e) (Nat.lt_irrefl _)
/-- every object of the heap is kept -/
theorem HOk.kept (x : HOk P w H h) (k : ∀ b u, h.get? b = some u → h'.get? b = some u) : HOk P w H h' := fun a o e =>
  (x a o e).stay (fun b u _ q => k b u q) (fun _ q => q) fun _ _ q => q
/-- a new object is laid and tracked -/
theorem HOk.laid (x : HOk P w H h) (k : ∀ b u, h.get? b = some u → h'.get? b = some u) (hp : h.objs.size ≤ a) (new : ObjOk P w (upd H a o) h' a o) : HOk P w (upd H a o) h' := fun b u e => by
  have hn := x.fresh hp
  by_cases hb : b = a
  · subst hb; rw [upd_same] at e; cases e; exact new
  · rw [upd_ne hb] at e
    exact (x b u e).stay (fun c v _ q => k c v q) (fun c q => by rw [upd_ne (ne_of_none q hn)]; exact q) fun c xs q => by rw [upd_ne (ne_of_none q hn)]; exact q
end

/-- what may be read as u: it is u, or a known u -/
def Rd (H : Hp) (a : Addr) (u : HO) : Prop := H a = some u ∨ ∃ o, H a = some (.frz o u)
theorem Rd.of {H : Hp} {a : Addr} {u : HO} (h : H a = some u) : Rd H a u := .inl h
theorem Rd.ok {P : Program} {w : World} {H : Hp} {h : Heap} {a : Addr} {u : HO} (r : Rd H a u) (x : HOk P w H h) : ObjOk P w H h a u := by
  rcases r with r | ⟨o, r⟩
  · exact x a u r
  · obtain ⟨_, q⟩ := x a _ r
    exact q
/-- what may be written -/
def Mut : Option HO → Prop
  | some (.lst _) => True
  | some (.dK _) => True
  | some (.dT _) => True
  | some (.set _ _) => True
  | some (.ins _ _ _) => True
  | some (.ext _) => True
  | _ => False
section
variable {P : Program} {w : World} {H : Hp} {h h' : Heap} {x e : Addr} {o' : HO}
/-- the object at e is changed: x itself, or the dict of the instance x -/
theorem HOk.write (ok : HOk P w H h) (mu : Mut (H x)) (he : e = x ∨ H e = some (.own x)) (k : ∀ b u, b ≠ e → h.get? b = some u → h'.get? b = some u) (heo : ∃ u, h'.get? e = some u)
    (new : ObjOk P w (upd H x o') h' x o') : HOk P w (upd H x o') h' := fun b u q => by
  have nown : ∀ c y, H c = some (.own y) → c ≠ x := fun c y r z => by subst z; rw [r] at mu; exact mu
  have ntup : ∀ c xs, H c = some (.tup xs) → c ≠ x := fun c xs r z => by subst z; rw [r] at mu; exact mu
  by_cases hb : b = x
  · subst hb; rw [upd_same] at q; cases q; exact new
  · rw [upd_ne hb] at q
    by_cases hbe : b = e
    · have q' : H b = some (.own x) := by
        rcases he with z | z
        · exact absurd (hbe.trans z) hb
        · rw [hbe]; exact z
      rw [q] at q'; cases q'
      obtain ⟨v, hv⟩ := heo
      exact ⟨v, by rw [hbe]; exact hv⟩
    · refine (ok b u q).stay (fun c v hc r => k c v ?_ r) (fun c r => by rw [upd_ne (nown c b r)]; exact r) fun c xs r => by rw [upd_ne (ntup c xs r)]; exact r
      rcases hc with rfl | hc
      · exact hbe
      · rintro rfl
        rcases he with z | z
        · exact nown c b hc z
        · rw [hc] at z; cases z; exact hb rfl
end

/-! ### kept unless tracked; of the frames at fs (the callers') the slots may change (an exception that passes writes there); of the records at ex (iterators) nothing is said -/
structure Un (fs ex : List Addr) (H H' : Hp) (h h' : Heap) : Prop where
  keep : ∀ b o, h.get? b = some o → H b = none → b ∉ fs → b ∉ ex → h'.get? b = some o
  slot : ∀ b o, h.get? b = some o → H b = none → b ∈ fs → b ∉ ex → ∃ sl, h'.get? b = some { o with slots := sl }
  free : ∀ b o, h.get? b = some o → H b = none → b ∉ ex → H' b = none
  there : ∀ b o, h.get? b = some o → b ∉ ex → ∃ o', h'.get? b = some o'
  tups : ∀ b xs, H b = some (.tup xs) → H' b = some (.tup xs)
  frzs : ∀ b o u, H b = some (.frz o u) → H' b = some (.frz o u)
  tbls : ∀ b ps, H b = some (.tbl ps) → ∃ more, H' b = some (.tbl (ps ++ more))
section
variable {fs fs' ex ex' : List Addr} {H H1 H2 : Hp} {h h1 h2 h' : Heap} {a x e : Addr} {o : HO}
theorem Un.any (u : Un fs ex H H1 h h1) {b : Addr} {ob : Obj} (q : h.get? b = some ob) (n : H b = none) (hx : b ∉ ex) : ∃ sl, h1.get? b = some { ob with slots := sl } := by
  by_cases hb : b ∈ fs
  · exact u.slot b ob q n hb hx
  · exact ⟨ob.slots, u.keep b ob q n hb hx⟩
theorem Un.trans (a : Un fs ex H H1 h h1) (b : Un fs ex H1 H2 h1 h2) : Un fs ex H H2 h h2 where
  keep := fun c ob q n hc hx => b.keep c ob (a.keep c ob q n hc hx) (a.free c ob q n hx) hc hx
  slot := fun c ob q n hc hx => by
    obtain ⟨sl, e1⟩ := a.slot c ob q n hc hx
    obtain ⟨sl', e2⟩ := b.slot c _ e1 (a.free c ob q n hx) hc hx
    exact ⟨sl', e2⟩
  free := fun c ob q n hx => by
    obtain ⟨o', e1⟩ := a.there c ob q hx
    exact b.free c o' e1 (a.free c ob q n hx) hx
  there := fun c ob q hx => by
    obtain ⟨o', e1⟩ := a.there c ob q hx
    exact b.there c o' e1 hx
  tups := fun c xs q => b.tups c xs (a.tups c xs q)
  frzs := fun c ob xs q => b.frzs c ob xs (a.frzs c ob xs q)
  tbls := fun c ps q => by
    obtain ⟨m1, e1⟩ := a.tbls c ps q
    obtain ⟨m2, e2⟩ := b.tbls c _ e1
    exact ⟨m1 ++ m2, by rw [e2, Array.append_assoc]⟩
theorem Un.kept (k : ∀ b u, h.get? b = some u → h'.get? b = some u) : Un fs ex H H h h' :=
  ⟨fun b ob q _ _ _ => k b ob q, fun b ob q _ _ _ => ⟨ob.slots, k b ob q⟩, fun _ _ _ n _ => n, fun b ob q _ => ⟨ob, k b ob q⟩, fun _ _ q => q, fun _ _ _ q => q, fun _ ps q => ⟨#[], by rw [q]; simp⟩⟩
theorem Un.refl : Un fs ex H H h h := Un.kept fun _ _ q => q
theorem Un.laid (k : ∀ b u, h.get? b = some u → h'.get? b = some u) (hp : h.objs.size ≤ a) (hn : H a = none) : Un fs ex H (upd H a o) h h' where
  keep := fun b u q _ _ _ => k b u q
  slot := fun b u q _ _ _ => ⟨u.slots, k b u q⟩
  free := fun b u q n _ => by rw [upd_ne (Nat.ne_of_lt (Nat.lt_of_lt_of_le (Heap.lt_size q) hp))]; exact n
  there := fun b u q _ => ⟨u, k b u q⟩
  tups := fun b xs q => by rw [upd_ne (ne_of_none q hn)]; exact q
  frzs := fun b u xs q => by rw [upd_ne (ne_of_none q hn)]; exact q
  tbls := fun b ps q => ⟨#[], by rw [upd_ne (ne_of_none q hn), q]; simp⟩
theorem Un.write (mu : Mut (H x)) (he : e = x ∨ H e = some (.own x)) (k : ∀ b u, b ≠ e → h.get? b = some u → h'.get? b = some u) (heo : ∃ u, h'.get? e = some u) : Un fs ex H (upd H x o) h h' := by
  have hx : ∀ b, H b = none → b ≠ x := fun b n z => by subst z; rw [n] at mu; exact mu
  have hb : ∀ b, H b = none → b ≠ e := fun b n z => by
    subst z
    rcases he with r | r
    · exact hx b n r
    · rw [n] at r; cases r
  have hm : ∀ b u, H b = some u → ¬ Mut (some u) → b ≠ x := fun b u q nm z => by subst z; rw [q] at mu; exact nm mu
  refine ⟨fun b u q n _ _ => k b u (hb b n) q, fun b u q n _ _ => ⟨u.slots, k b u (hb b n) q⟩, fun b u q n _ => by rw [upd_ne (hx b n)]; exact n, fun b u q _ => ?_,
    fun b xs q => by rw [upd_ne (hm b _ q fun z => z)]; exact q, fun b u xs q => by rw [upd_ne (hm b _ q fun z => z)]; exact q, fun b ps q => ⟨#[], by rw [upd_ne (hm b _ q fun z => z), q]; simp⟩⟩
  by_cases hbe : b = e
  · subst hbe; exact heo
  · exact ⟨u, k b u hbe q⟩
theorem Un.mono (u : Un fs ex H H1 h h1) (hs : ∀ b ∈ fs, b ∈ fs') (hx : ∀ b ∈ ex, b ∈ ex') : Un fs' ex' H H1 h h1 :=
  ⟨fun b ob q n hb he => u.keep b ob q n (fun z => hb (hs b z)) fun z => he (hx b z), fun _ _ q n _ he => u.any q n fun z => he (hx _ z), fun b ob q n he => u.free b ob q n fun z => he (hx b z), fun b ob q he => u.there b ob q fun z => he (hx b z), u.tups, u.frzs, u.tbls⟩
end

/-! ### the heap without what is tracked -/
def trk (h : Heap) (H : Hp) : List Addr := (List.range h.objs.size).filter fun a => (H a).isSome
def hidT (h : Heap) (H : Hp) : Heap := PySem.W.hideAll h (trk h H)
theorem hidT_size (h : Heap) (H : Hp) : (hidT h H).objs.size = h.objs.size := PySem.W.hideAll_size _ _
theorem hidT_get {h : Heap} {H : Hp} {b : Addr} {o : Obj} (e : h.get? b = some o) (n : H b = none) : (hidT h H).get? b = some o :=
  PySem.W.hideAll_get _ e fun hm => by
    have q : (H b).isSome = true := (List.mem_filter.mp hm).2
    rw [n] at q; simp at q
theorem of_hidT {h : Heap} {H : Hp} {b : Addr} {o : Obj} (e : (hidT h H).get? b = some o) : h.get? b = some o ∧ H b = none := by
  have e' : h.get? b = some o := PySem.W.of_hideAll (trk h H) e
  refine ⟨e', ?_⟩
  cases q : H b with
  | none => rfl
  | some x =>
    have hm : b ∈ trk h H := List.mem_filter.mpr ⟨List.mem_range.mpr (Heap.lt_size e'), by simp [q]⟩
    have z : (hidT h H).get? b = none := PySem.W.hideAll_none (trk h H) hm
    rw [z] at e; cases e

/-! ### OpenK's ledger, filled with every new object but one -/
def allNews (g h : Heap) (L : Addr) : List (Addr × Obj) := (List.range h.objs.size).filterMap fun a => if a = L ∨ (g.get? a).isSome = true then none else (h.get? a).map fun o => (a, o)
def rest (g h : Heap) (L d : Addr) : List (Addr × Obj) := (allNews g h L).filter fun p => decide (p.1 ≠ d)
end L2

namespace L2
open PySem PySem.Spec PyProof.Rows

/-- the module's facts, over the base: the heap at the law's entry without what is tracked there -/
structure Mod (K : PySem.W.Frag) (mg : Str → Option Value) (base : Heap) : Prop where
  kin : K.In base
  glob : base.Ns mainGlobals mg
  blt : ∃ mb, base.Ns builtinsNs mb ∧ ∀ x : Str, x ≠ "__name__" → mb x = bootBuiltins x
  nolimit : base.NoLimit

/-- the context: a def's body (or a comprehension's block) running. base: fixed through the whole law; s₀, H₀: the entry; outer: the frames whose slots others may change (a def's callers); stack: all frames that run;
   ex: iterators that were made ahead of the entry and are walked here (a comprehension's); fn: the names whose cells were made at the entry (a def: all; a comprehension's block: its own); calm: not within an except suite; pn: pins that every state bears; xe: what is wanted of an exception that leaves the code -/
structure Cx where
  prog : Program
  w : World
  K : PySem.W.Frag
  mg : Str → Option Value
  base : Heap
  A : Around
  N : List Str
  s₀ : Shared
  H₀ : Hp
  env : Env
  outer : List Env
  stack : List Env
  ex : List Addr
  fn : Str → Bool
  calm : Bool
  pn : List (Addr × Obj)
  xe : Value → Shared → Prop
/-- the callers' frames -/
def frs (l : List Env) : List Addr := l.filterMap (·.frame)
abbrev Cx.fs (X : Cx) : List Addr := frs X.outer

def Vis (sc : Scope) (x : Str) : Prop := sc.names.lookup x = some .local ∨ sc.names.lookup x = some .cell ∨ sc.names.lookup x = some .free
def Loc (sc : Scope) (x : Str) : Prop := sc.names.lookup x = some .local ∨ sc.names.lookup x = some .cell
def Look (env : Env) (h : Heap) (m : Str → Option Value) (x : Str) (u : Value) : Prop :=
  (env.kindOf x = some .local ∧ m x = some u) ∨ ((env.kindOf x = some .cell ∨ env.kindOf x = some .free) ∧ ∃ c, env.cells.lookup x = some c ∧ h.IsCell c (some u))

structure Cx.Ok (X : Cx) : Prop where
  mod : Mod X.K X.mg X.base
  kind : X.env.scope.kind = .function
  glob : X.env.globals = mainGlobals
  blt : X.env.builtins = builtinsNs
  above : X.s₀.heap.objs.size ≤ X.env.locals
  inj : ∀ x y c, X.env.cells.lookup x = some c → X.env.cells.lookup y = some c → x = y
  has : ∀ x, (X.env.kindOf x = some .cell ∨ X.env.kindOf x = some .free) → ∃ c, X.env.cells.lookup x = some c
  cab : ∀ x c, X.fn x = true → X.env.cells.lookup x = some c → X.s₀.heap.objs.size ≤ c
  hd : X.calm = true → X.A.handled = none
  frames : X.A.frames = some X.stack
  stk : X.stack = X.outer ∨ (X.stack = X.env :: X.outer ∧ X.env.frame = some X.env.locals)
  exf : ∀ b ∈ X.ex, b ≠ X.env.locals ∧ ∀ x c, X.env.cells.lookup x = some c → c ≠ b
  bs : ∀ b o, X.base.get? b = some o → X.s₀.heap.get? b = some o ∧ X.H₀ b = none
  bsz : X.base.objs.size ≤ X.s₀.heap.objs.size
  noex : ∀ b o, X.base.get? b = some o → b ∉ X.ex
  exfs : ∀ b ∈ X.ex, b ∉ X.fs
  funs : X.s₀.heap.FunFrames X.base X.outer
  frf : ∀ b ∈ X.fs, X.H₀ b = none

structure Inv (X : Cx) (pins : List (Addr × Obj)) (σ : List (Option V)) (H : Hp) (s : Shared) : Prop where
  ok : X.Ok
  os : s.os = X.s₀.os
  bare : AllBare s.gens
  base : Un X.fs X.ex X.H₀ H X.s₀.heap s.heap
  loc : ∃ m, s.heap.Ns X.env.locals m ∧ ∀ (i : Nat) (x : Str) (v : V), X.N[i]? = some x → σ[i]? = some (some v) → Vis X.env.scope x → ∃ u, RelV v u ∧ Look X.env s.heap m x u
  cell : ∀ x c, X.env.cells.lookup x = some c → ∃ v, s.heap.IsCell c v
  free : H X.env.locals = none
  freeC : ∀ x c, X.env.cells.lookup x = some c → H c = none
  pin : ∀ p ∈ X.pn ++ pins, s.heap.get? p.1 = some p.2 ∧ H p.1 = none ∧ p.1 ≠ X.env.locals ∧ p.1 ∉ X.fs ∧ ∀ v, p.2.data ≠ .cell v
  hok : HOk X.prog X.w H s.heap
  len : σ.length = X.N.length

section
variable {X : Cx} {pins : List (Addr × Obj)} {σ : List (Option V)} {H H' : Hp} {s : Shared} {h' : Heap}

theorem Cx.Ok.nofr (ok : X.Ok) {b : Addr} {o : Obj} (e : X.base.get? b = some o) : b ∉ X.fs := fun hb => by
  have := (ok.funs.mem hb).1
  rw [e] at this; cases this
theorem Inv.bs (I : Inv X pins σ H s) : ∀ b o, X.base.get? b = some o → s.heap.get? b = some o ∧ H b = none := fun b o e =>
  ⟨I.base.keep b o (I.ok.bs b o e).1 (I.ok.bs b o e).2 (I.ok.nofr e) (I.ok.noex b o e), I.base.free b o (I.ok.bs b o e).1 (I.ok.bs b o e).2 (I.ok.noex b o e)⟩
theorem Inv.bk (I : Inv X pins σ H s) : ∀ b o, X.base.get? b = some o → s.heap.get? b = some o := fun b o e => (I.bs b o e).1
theorem Inv.mod (I : Inv X pins σ H s) : Mod X.K X.mg X.base := I.ok.mod
theorem Inv.kIn (I : Inv X pins σ H s) : X.K.In s.heap := I.ok.mod.kin.keeps I.bk
theorem Inv.nolimit (I : Inv X pins σ H s) : s.heap.NoLimit := I.ok.mod.nolimit.keeps I.bk
/-- the frame over the base: for OpenK's rules (K.In X.base is I.mod.kin) -/
theorem Inv.fr (I : Inv X pins σ H s) : ∃ m, Fr X.base X.env.locals s.heap m :=
  let ⟨m, hn, _⟩ := I.loc
  ⟨m, hn, I.bk, Nat.le_trans I.ok.bsz I.ok.above⟩
theorem Inv.lt (I : Inv X pins σ H s) : X.env.locals < s.heap.objs.size := let ⟨_, hn, _⟩ := I.loc; hn.lt
theorem Inv.sz (I : Inv X pins σ H s) : X.s₀.heap.objs.size ≤ s.heap.objs.size := Nat.le_trans I.ok.above (Nat.le_of_lt I.lt)
theorem Inv.nofs (I : Inv X pins σ H s) {a : Addr} (h : s.heap.objs.size ≤ a) : a ∉ X.fs := fun hb => by
  obtain ⟨_, o, ho, _⟩ := I.ok.funs.mem hb
  exact absurd (Nat.lt_of_lt_of_le (Heap.lt_size ho) (Nat.le_trans I.sz h)) (Nat.lt_irrefl _)
theorem Inv.cne (I : Inv X pins σ H s) : ∀ x c, X.env.cells.lookup x = some c → c ≠ X.env.locals := fun x c e z => by
  obtain ⟨v, o, ho, hd⟩ := I.cell x c e
  obtain ⟨m, ⟨o', es, ep, ho', hd', _⟩, _⟩ := I.loc
  rw [z, ho'] at ho; cases ho; rw [hd'] at hd; cases hd
theorem Inv.funs (I : Inv X pins σ H s) : s.heap.FunFrames X.base X.outer := by
  have all : ∀ (l : List Env), (∀ b ∈ frs l, b ∈ X.fs) → X.s₀.heap.FunFrames X.base l → s.heap.FunFrames X.base l := by
    intro l
    induction l with
    | nil => intro _ _; trivial
    | cons env r ih =>
      intro hs hl
      obtain ⟨hk, ⟨L, o, hf, hn, ho, hd⟩, hr⟩ := hl
      have hL : L ∈ X.fs := hs L (by unfold frs; rw [List.filterMap_cons, hf]; exact List.mem_cons_self)
      obtain ⟨sl, e⟩ := I.base.slot L o ho (I.ok.frf L hL) hL fun z => I.ok.exfs L z hL
      exact ⟨hk, ⟨L, _, hf, hn, e, hd⟩, ih (fun b hb => hs b (by unfold frs; rw [List.filterMap_cons, hf]; exact List.mem_cons_of_mem _ hb)) hr⟩
  exact all X.outer (fun _ hb => hb) I.ok.funs

/-- the frames that run, for a call -/
theorem Inv.stack (I : Inv X pins σ H s) : s.heap.FunFrames X.base X.stack := by
  rcases I.ok.stk with e | ⟨e, hf⟩
  · rw [e]; exact I.funs
  · rw [e]
    obtain ⟨m, hn, _⟩ := I.loc
    refine .cons (by rw [I.ok.kind]; decide) hf hn ?_ I.funs
    exact Heap.get?_none_of_le (Nat.le_trans I.ok.bsz I.ok.above)
theorem Inv.stkSub (I : Inv X pins σ H s) : ∀ b ∈ frs X.stack, b ∈ X.env.locals :: X.fs := fun b hb => by
  rcases I.ok.stk with e | ⟨e, hf⟩
  · rw [e] at hb; exact List.mem_cons_of_mem _ hb
  · rw [e] at hb
    unfold frs at hb
    rw [List.filterMap_cons, hf] at hb
    exact hb
theorem Inv.stkFree (I : Inv X pins σ H s) : ∀ b ∈ frs X.stack, H b = none := fun b hb => by
  rcases List.mem_cons.mp (I.stkSub b hb) with e | hb
  · rw [e]; exact I.free
  · obtain ⟨_, o, ho, _⟩ := I.ok.funs.mem hb
    exact I.base.free b o ho (I.ok.frf b hb) fun z => I.ok.exfs b z hb

/-- THE STEP: the untracked objects but the frame and the records at ch are kept (the callers' frames up to slots), the frame's map is kept, the new abstract heap is held -/
theorem Inv.step {g' : Array GenState} {t' : Nat} {d' : Drawn} {ch : List Addr} (I : Inv X pins σ H s)
    (hch : ∀ b ∈ ch, (b ∈ X.ex ∨ X.s₀.heap.objs.size ≤ b) ∧ b ≠ X.env.locals ∧ (∀ x c, X.env.cells.lookup x = some c → c ≠ b) ∧ ∀ p ∈ X.pn ++ pins, p.1 ≠ b)
    (keep : ∀ b o, b ≠ X.env.locals → b ∉ X.fs → b ∉ ch → s.heap.get? b = some o → H b = none → h'.get? b = some o)
    (slot : ∀ b o, b ≠ X.env.locals → b ∈ X.fs → b ∉ ch → s.heap.get? b = some o → H b = none → ∃ sl, h'.get? b = some { o with slots := sl }) (free : ∀ b o, b ∉ ch → s.heap.get? b = some o → H b = none → H' b = none)
    (there : ∀ b o, b ∉ ch → s.heap.get? b = some o → ∃ o', h'.get? b = some o')
    (tups : ∀ b xs, H b = some (.tup xs) → H' b = some (.tup xs)) (frzs : ∀ b o u, H b = some (.frz o u) → H' b = some (.frz o u)) (tbls : ∀ b ps, H b = some (.tbl ps) → ∃ more, H' b = some (.tbl (ps ++ more)))
    (ns : ∀ m, s.heap.Ns X.env.locals m → h'.Ns X.env.locals m) (hok : HOk X.prog X.w H' h') (hg : AllBare g') :
    Inv X pins σ H' { s with heap := h', gens := g', drawn := d', toks := t' } := by
  have neL : ∀ b o, X.s₀.heap.get? b = some o → b ≠ X.env.locals := fun b o e => Nat.ne_of_lt (Nat.lt_of_lt_of_le (Heap.lt_size e) I.ok.above)
  have neC : ∀ b o, X.s₀.heap.get? b = some o → b ∉ X.ex → b ∉ ch := fun b o e hx hb => by
    rcases (hch b hb).1 with z | z
    · exact hx z
    · exact absurd (Nat.lt_of_lt_of_le (Heap.lt_size e) z) (Nat.lt_irrefl _)
  have cellK : ∀ x c, X.env.cells.lookup x = some c → ∀ v, s.heap.IsCell c v → h'.IsCell c v := fun x c e v ⟨o, ho, hd⟩ => by
    have nch : c ∉ ch := fun z => (hch c z).2.2.1 x c e rfl
    by_cases hc : c ∈ X.fs
    · obtain ⟨sl, q⟩ := slot c o (I.cne x c e) hc nch ho (I.freeC x c e)
      exact ⟨_, q, hd⟩
    · exact ⟨o, keep c o (I.cne x c e) hc nch ho (I.freeC x c e), hd⟩
  refine ⟨I.ok, I.os, hg, ⟨fun b o e n hb hx => ?_, fun b o e n hb hx => ?_, fun b o e n hx => ?_, fun b o e hx => ?_, fun b xs e => tups b xs (I.base.tups b xs e), fun b o xs e => frzs b o xs (I.base.frzs b o xs e), fun b ps e => ?_⟩, ?_, fun x c e => ?_, ?_, fun x c e => ?_, fun p hp => ?_, hok, I.len⟩
  · exact keep b o (neL b o e) hb (neC b o e hx) (I.base.keep b o e n hb hx) (I.base.free b o e n hx)
  · obtain ⟨sl, e1⟩ := I.base.slot b o e n hb hx
    obtain ⟨sl', e2⟩ := slot b _ (neL b o e) hb (neC b o e hx) e1 (I.base.free b o e n hx)
    exact ⟨sl', e2⟩
  · obtain ⟨o', e1⟩ := I.base.there b o e hx
    exact free b o' (neC b o e hx) e1 (I.base.free b o e n hx)
  · obtain ⟨o', e1⟩ := I.base.there b o e hx
    exact there b o' (neC b o e hx) e1
  · obtain ⟨m1, e1⟩ := I.base.tbls b ps e
    obtain ⟨m2, e2⟩ := tbls b _ e1
    exact ⟨m1 ++ m2, by rw [e2, Array.append_assoc]⟩
  · obtain ⟨m, hn, hl⟩ := I.loc
    refine ⟨m, ns m hn, fun i x v e1 e2 e3 => ?_⟩
    obtain ⟨u, r, l⟩ := hl i x v e1 e2 e3
    refine ⟨u, r, ?_⟩
    rcases l with l | ⟨k, c, e, z⟩
    · exact .inl l
    · exact .inr ⟨k, c, e, cellK x c e _ z⟩
  · obtain ⟨v, z⟩ := I.cell x c e
    exact ⟨v, cellK x c e v z⟩
  · obtain ⟨m, ⟨o, _, _, ho, _⟩, _⟩ := I.loc
    exact free _ o (fun z => (hch _ z).2.1 rfl) ho I.free
  · obtain ⟨v, o, ho, hd⟩ := I.cell x c e
    exact free c o (fun z => (hch c z).2.2.1 x c e rfl) ho (I.freeC x c e)
  · obtain ⟨e, n, ne, nf, d⟩ := I.pin p hp
    have nch : p.1 ∉ ch := fun z => (hch p.1 z).2.2.2 p hp rfl
    exact ⟨keep p.1 p.2 ne nf nch e n, free p.1 p.2 nch e n, ne, nf, d⟩
/-- .. where the frame's own object is kept too -/
theorem Inv.un {t' : Nat} (I : Inv X pins σ H s) (u : Un X.fs [] H H' s.heap h') (hok : HOk X.prog X.w H' h') : Inv X pins σ H' { s with heap := h', toks := t' } := by
  obtain ⟨m, ⟨o, es, ep, ho, r⟩, _⟩ := id I.loc
  obtain ⟨sl, hL⟩ := u.any ho I.free (by simp)
  exact I.step (g' := s.gens) (d' := s.drawn) (ch := []) (fun _ z => nomatch z) (fun b o _ hb _ e n => u.keep b o e n hb (by simp)) (fun b o _ hb _ e n => u.slot b o e n hb (by simp)) (fun b o _ e n => u.free b o e n (by simp)) (fun b o _ e => u.there b o e (by simp)) u.tups u.frzs u.tbls (fun m' hm => by
    obtain ⟨o', es', ep', ho', r'⟩ := hm
    rw [ho] at ho'; cases ho'
    exact ⟨_, es', ep', hL, r'⟩) hok I.bare
/-- behind a call (or a comprehension's block): the slots of this frame may have changed too, the records at ch may have turned -/
theorem Inv.call {g' : Array GenState} {t' : Nat} {d' : Drawn} {ch : List Addr} (I : Inv X pins σ H s) (u : Un (frs X.stack) ch H H' s.heap h') (hok : HOk X.prog X.w H' h') (hg : AllBare g')
    (hch : ∀ b ∈ ch, (b ∈ X.ex ∨ X.s₀.heap.objs.size ≤ b) ∧ b ≠ X.env.locals ∧ (∀ x c, X.env.cells.lookup x = some c → c ≠ b) ∧ ∀ p ∈ X.pn ++ pins, p.1 ≠ b) :
    Inv X pins σ H' { s with heap := h', gens := g', drawn := d', toks := t' } := by
  obtain ⟨m, ⟨o, es, ep, ho, r⟩, _⟩ := id I.loc
  obtain ⟨sl, hL⟩ := u.any ho I.free fun z => (hch _ z).2.1 rfl
  exact I.step (ch := ch) hch (fun b o hL hb hc e n => u.keep b o e n (fun z => (List.mem_cons.mp (I.stkSub b z)).elim hL hb) hc) (fun b o _ _ hc e n => u.any e n hc) (fun b o hc e n => u.free b o e n hc) (fun b o hc e => u.there b o e hc) u.tups u.frzs u.tbls (fun m' hm => by
    obtain ⟨o', es', ep', ho', r'⟩ := hm
    rw [ho] at ho'; cases ho'
    exact ⟨_, es', ep', hL, r'⟩) hok hg
/-- an untracked record of ours (an iterator) has turned -/
theorem Inv.turned {t' : Nat} {it : Addr} (I : Inv X pins σ H s) (k : ∀ b o, b ≠ it → s.heap.get? b = some o → h'.get? b = some o) (hn : H it = none) (hL : it ≠ X.env.locals)
    (h1 : it ∈ X.ex ∨ X.s₀.heap.objs.size ≤ it) (h2 : ∀ x c, X.env.cells.lookup x = some c → c ≠ it) (h3 : ∀ p ∈ X.pn ++ pins, p.1 ≠ it) : Inv X pins σ H { s with heap := h', toks := t' } := by
  have nit : ∀ b u, H b = some u → b ≠ it := fun b u e z => by rw [z, hn] at e; cases e
  refine I.step (g' := s.gens) (d' := s.drawn) (ch := [it]) (fun b hb => ?_) (fun b o _ _ hc e _ => k b o (fun z => hc (by simp [z])) e) (fun b o _ _ hc e _ => ⟨o.slots, k b o (fun z => hc (by simp [z])) e⟩) (fun _ _ _ _ n => n)
    (fun b o hc e => ⟨o, k b o (fun z => hc (by simp [z])) e⟩) (fun _ _ e => e) (fun _ _ _ e => e) (fun b ps e => ⟨#[], by rw [e]; simp⟩) (fun m hm => ?_) (fun b u e => ?_) I.bare
  · have e : b = it := by simpa using hb
    subst e
    exact ⟨h1, hL, h2, h3⟩
  · obtain ⟨o, es, ep, ho, r⟩ := hm
    exact ⟨o, es, ep, k _ o (Ne.symm hL) ho, r⟩
  · refine (I.hok b u e).stay (fun c v hc q => k c v ?_ q) (fun _ q => q) fun _ _ q => q
    rcases hc with z | z
    · rw [z]; exact nit b u e
    · exact nit c _ z
theorem Inv.tok (I : Inv X pins σ H s) (t : Nat) : Inv X pins σ H { s with toks := t } := I.un (h' := s.heap) (t' := t) Un.refl I.hok
/-- all objects kept -/
theorem Inv.kept {t' : Nat} (I : Inv X pins σ H s) (k : ∀ b u, s.heap.get? b = some u → h'.get? b = some u) : Inv X pins σ H { s with heap := h', toks := t' } := I.un (Un.kept k) (I.hok.kept k)
/-- a new object laid and tracked -/
theorem Inv.laid {a : Addr} {o : HO} {t' : Nat} (I : Inv X pins σ H s) (k : ∀ b u, s.heap.get? b = some u → h'.get? b = some u) (hp : s.heap.objs.size ≤ a) (new : ObjOk X.prog X.w (upd H a o) h' a o) :
    Inv X pins σ (upd H a o) { s with heap := h', toks := t' } := I.un (Un.laid k hp (I.hok.fresh hp)) (I.hok.laid k hp new)
/-- an object written -/
theorem Inv.write {x e : Addr} {o : HO} {t' : Nat} (I : Inv X pins σ H s) (mu : Mut (H x)) (he : e = x ∨ H e = some (.own x)) (k : ∀ b u, b ≠ e → s.heap.get? b = some u → h'.get? b = some u) (heo : ∃ u, h'.get? e = some u)
    (new : ObjOk X.prog X.w (upd H x o) h' x o) : Inv X pins σ (upd H x o) { s with heap := h', toks := t' } := I.un (Un.write mu he k heo) (I.hok.write mu he k heo new)
/-- forgetting slots, pins -/
theorem Inv.weak {σ' : List (Option V)} (I : Inv X pins σ H s) (hl : σ'.length = σ.length) (w : ∀ (i : Nat) v, σ'[i]? = some (some v) → σ[i]? = some (some v)) : Inv X pins σ' H s :=
  ⟨I.ok, I.os, I.bare, I.base, let ⟨m, hn, hl'⟩ := I.loc; ⟨m, hn, fun i x v e1 e2 e3 => hl' i x v e1 (w i v e2) e3⟩, I.cell, I.free, I.freeC, I.pin, I.hok, hl.trans I.len⟩
theorem Inv.pins_of {pins' : List (Addr × Obj)} (I : Inv X pins σ H s) (h : ∀ p ∈ pins', s.heap.get? p.1 = some p.2 ∧ H p.1 = none ∧ p.1 ≠ X.env.locals ∧ p.1 ∉ X.fs ∧ ∀ v, p.2.data ≠ .cell v) : Inv X pins' σ H s :=
  ⟨I.ok, I.os, I.bare, I.base, I.loc, I.cell, I.free, I.freeC, fun p hp => (List.mem_append.mp hp).elim (fun z => I.pin p (List.mem_append_left _ z)) (h p), I.hok, I.len⟩

theorem nodup_ix {N : List Str} (hN : N.Nodup) {i j : Nat} {x : Str} (a : N[i]? = some x) (b : N[j]? = some x) : i = j := by
  obtain ⟨h1, e1⟩ := List.getElem?_eq_some_iff.mp a
  obtain ⟨h2, e2⟩ := List.getElem?_eq_some_iff.mp b
  exact (List.getElem_inj hN).mp (e1.trans e2.symm)

/-- a name is stored; what changed -/
theorem store_ok2 {M : Model} {A : Around} {E : Value → Shared → Prop} {i : Nat} {x : Str} {v : V} {u : Value} {Q : Unit → Shared → Prop} (I : Inv X pins σ H s) (hN : X.N.Nodup) (hi : X.N[i]? = some x) (hx : Loc X.env.scope x) (r : RelV v u)
    (h : ∀ s', Inv X pins (σ.set i (some v)) H s' → (∃ a, Heap.SameBut a s.heap s'.heap ∧ (a = X.env.locals ∨ X.env.cells.lookup x = some a)) → Q () s') (hf : X.fn x = true ∨ X.env.scope.names.lookup x = some .local := by first | exact .inl rfl | exact .inr rfl | assumption) : wpAny M A (storeName X.env x u) Q E s := by
  obtain ⟨m, hn, hl⟩ := id I.loc
  have hcls : (X.env.scope.kind == .class || (X.env.scope.kind == .module && X.env.locals != X.env.globals)) = false := by rw [I.ok.kind]; rfl
  have hiσ : i < σ.length := by rw [I.len]; exact (List.getElem?_eq_some_iff.mp hi).1
  have cne := I.cne
  have tracked : ∀ {a : Addr} {h' : Heap}, (∃ o, s.heap.get? a = some o ∧ H a = none) → Heap.SameBut a s.heap h' → HOk X.prog X.w H h' := fun {a h'} ha hs b ob e => by
    obtain ⟨_, _, hfree⟩ := ha
    refine (I.hok b ob e).stay (fun c w' hc q => (hs.2 c ?_).trans q) (fun _ q => q) fun _ _ q => q
    rintro rfl
    rcases hc with rfl | hc
    · rw [hfree] at e; cases e
    · rw [hfree] at hc; cases hc
  rcases hx with hk | hk
  · refine wpAny_storeName_local hk hn (fun h' hn' hs => ?_) hcls
    obtain ⟨oL, _, _, hoL, _⟩ := id hn
    refine h _ ⟨I.ok, I.os, I.bare, ⟨fun b o e n hb hx => ?_, fun b o e n hb hx => ?_, I.base.free, fun b o e hx => ?_, I.base.tups, I.base.frzs, I.base.tbls⟩, ⟨_, hn', fun j y v' e1 e2 e3 => ?_⟩, fun y c e => ?_, I.free, I.freeC, fun p hp => ?_, tracked ⟨oL, hoL, I.free⟩ hs, by simpa using I.len⟩ ⟨_, hs, .inl rfl⟩
    · exact (hs.2 b (Nat.ne_of_lt (Nat.lt_of_lt_of_le (Heap.lt_size e) I.ok.above))).trans (I.base.keep b o e n hb hx)
    · obtain ⟨sl, e1⟩ := I.base.slot b o e n hb hx
      exact ⟨sl, (hs.2 b (Nat.ne_of_lt (Nat.lt_of_lt_of_le (Heap.lt_size e) I.ok.above))).trans e1⟩
    · obtain ⟨o', e1⟩ := I.base.there b o e hx
      exact ⟨o', (hs.2 b (Nat.ne_of_lt (Nat.lt_of_lt_of_le (Heap.lt_size e) I.ok.above))).trans e1⟩
    · by_cases hj : j = i
      · subst hj
        rw [hi] at e1; cases e1
        rw [List.getElem?_set_self hiσ] at e2
        cases e2
        exact ⟨u, r, .inl ⟨hk, by simp⟩⟩
      · rw [List.getElem?_set_ne (Ne.symm hj)] at e2
        obtain ⟨u', r', q⟩ := hl j y v' e1 e2 e3
        refine ⟨u', r', ?_⟩
        rcases q with ⟨k, e⟩ | ⟨k, c, e, z⟩
        · refine .inl ⟨k, ?_⟩
          have : y ≠ x := fun e => hj (nodup_ix hN e1 (e ▸ hi))
          simp [this, e]
        · exact .inr ⟨k, c, e, z.sameBut hs (cne y c e)⟩
    · obtain ⟨w', z⟩ := I.cell y c e
      exact ⟨w', z.sameBut hs (cne y c e)⟩
    · obtain ⟨e, n, ne, nf, d⟩ := I.pin p hp
      exact ⟨(hs.2 p.1 ne).trans e, n, ne, nf, d⟩
  · have hfn : X.fn x = true := by
      rcases hf with z | z
      · exact z
      · rw [z] at hk; cases hk
    obtain ⟨c, hc⟩ := I.ok.has x (.inl hk)
    obtain ⟨w', z⟩ := I.cell x c hc
    refine wpAny_storeName_cell I.ok.kind hk hc z (fun h' hc' hs => ?_)
    obtain ⟨oc, hoc, hocd⟩ := id z
    refine h { s with heap := h' } ⟨I.ok, I.os, I.bare, ⟨fun b o e n hb hx => ?_, fun b o e n hb hx => ?_, I.base.free, fun b o e hx => ?_, I.base.tups, I.base.frzs, I.base.tbls⟩, ⟨m, hn.sameBut hs (Ne.symm (cne x c hc)), fun j y v' e1 e2 e3 => ?_⟩, fun y c' e => ?_, I.free, I.freeC, fun p hp => ?_, tracked ⟨oc, hoc, I.freeC x c hc⟩ hs, by simpa using I.len⟩ ⟨c, hs, .inr hc⟩
    · exact (hs.2 b (Nat.ne_of_lt (Nat.lt_of_lt_of_le (Heap.lt_size e) (I.ok.cab x c hfn hc)))).trans (I.base.keep b o e n hb hx)
    · obtain ⟨sl, e1⟩ := I.base.slot b o e n hb hx
      exact ⟨sl, (hs.2 b (Nat.ne_of_lt (Nat.lt_of_lt_of_le (Heap.lt_size e) (I.ok.cab x c hfn hc)))).trans e1⟩
    · obtain ⟨o', e1⟩ := I.base.there b o e hx
      exact ⟨o', (hs.2 b (Nat.ne_of_lt (Nat.lt_of_lt_of_le (Heap.lt_size e) (I.ok.cab x c hfn hc)))).trans e1⟩
    · by_cases hj : j = i
      · subst hj
        rw [hi] at e1; cases e1
        rw [List.getElem?_set_self hiσ] at e2
        cases e2
        exact ⟨u, r, .inr ⟨.inl hk, c, hc, hc'⟩⟩
      · rw [List.getElem?_set_ne (Ne.symm hj)] at e2
        obtain ⟨u', r', q⟩ := hl j y v' e1 e2 e3
        refine ⟨u', r', ?_⟩
        rcases q with q | ⟨k, c', e, z'⟩
        · exact .inl q
        · refine .inr ⟨k, c', e, z'.sameBut hs ?_⟩
          rintro rfl
          exact hj (nodup_ix hN e1 (I.ok.inj _ _ _ e hc ▸ hi))
    · by_cases hcc : c' = c
      · subst hcc; exact ⟨_, hc'⟩
      · obtain ⟨w2, z2⟩ := I.cell y c' e
        exact ⟨w2, z2.sameBut hs hcc⟩
    · obtain ⟨e, n, ne, nf, d⟩ := I.pin p hp
      refine ⟨(hs.2 p.1 ?_).trans e, n, ne, nf, d⟩
      intro q
      rw [q, hoc] at e
      have q' : oc = p.2 := Option.some.inj e
      exact d w' (by rw [← q']; exact hocd)
theorem store_ok {M : Model} {A : Around} {E : Value → Shared → Prop} {i : Nat} {x : Str} {v : V} {u : Value} {Q : Unit → Shared → Prop} (I : Inv X pins σ H s) (hN : X.N.Nodup) (hi : X.N[i]? = some x) (hx : Loc X.env.scope x) (r : RelV v u)
    (h : ∀ s', Inv X pins (σ.set i (some v)) H s' → Q () s') (hf : X.fn x = true ∨ X.env.scope.names.lookup x = some .local := by first | exact .inl rfl | exact .inr rfl | assumption) : wpAny M A (storeName X.env x u) Q E s :=
  store_ok2 I hN hi hx r (fun s' I' _ => h s' I') hf
/-- behind a call or a block, the state as it is -/
theorem Inv.call' {s' : Shared} {ch : List Addr} (I : Inv X pins σ H s) (ho : s'.os = s.os) (u : Un (frs X.stack) ch H H' s.heap s'.heap) (hok : HOk X.prog X.w H' s'.heap) (hg : AllBare s'.gens)
    (hch : ∀ b ∈ ch, (b ∈ X.ex ∨ X.s₀.heap.objs.size ≤ b) ∧ b ≠ X.env.locals ∧ (∀ x c, X.env.cells.lookup x = some c → c ≠ b) ∧ ∀ p ∈ X.pn ++ pins, p.1 ≠ b) : Inv X pins σ H' s' := by
  obtain ⟨h', g', d', t', o'⟩ := s'
  have e : o' = s.os := ho
  subst e
  exact I.call (g' := g') (t' := t') (d' := d') u hok hg hch
end

/-! ### the judgements -/
/-- an exception: its class, its own dict's address (where it has one), the abstract heap behind it -/
abbrev XK := Value → Option Addr → Hp → Prop
abbrev St := List (Option V)
abbrev VK := V → Hp → Prop
/-- an expression's reading; a test's; an argument list's -/
abbrev TE := St → Hp → VK → Prop
abbrev TT := St → Hp → (Bool → Hp → Prop) → Prop
abbrev TA := St → Hp → (List V → Hp → Prop) → Prop
/-- what is wanted behind a statement -/
structure Ends where
  nx : St → Hp → Prop
  rt : VK
  bk : St → Hp → Prop := fun _ _ => False
  ct : St → Hp → Prop := fun _ _ => False
abbrev TS := Ends → St → Hp → Prop

def EP (X : Cx) (pins : List (Addr × Obj)) (σ : St) (Q : VK) (u : Value) (s' : Shared) : Prop := ∃ v H', Inv X pins σ H' s' ∧ RelV v u ∧ Q v H'
def TP (X : Cx) (pins : List (Addr × Obj)) (σ : St) (Q : Bool → Hp → Prop) (b : Bool) (s' : Shared) : Prop := ∃ H', Inv X pins σ H' s' ∧ Q b H'
def AP (X : Cx) (pins : List (Addr × Obj)) (σ : St) (Q : List V → Hp → Prop) (us : List Value) (s' : Shared) : Prop := ∃ vs H', Inv X pins σ H' s' ∧ Vals vs us ∧ Q vs H'
def SP (X : Cx) (pins : List (Addr × Obj)) (D : Ends) (f : Flow) (s' : Shared) : Prop :=
  match f with
  | .next => ∃ σ' H', Inv X pins σ' H' s' ∧ D.nx σ' H'
  | .brk => ∃ σ' H', Inv X pins σ' H' s' ∧ D.bk σ' H'
  | .cont => ∃ σ' H', Inv X pins σ' H' s' ∧ D.ct σ' H'
  | .ret u => ∃ v σ' H', Inv X pins σ' H' s' ∧ RelV v u ∧ D.rt v H'

def PE (X : Cx) (e : Expr) (t : TE) : Prop :=
  ∀ (pins : List (Addr × Obj)) (s : Shared) (σ : St) (H : Hp) (Q : VK), Inv X pins σ H s → t σ H Q → wpAny (model X.prog X.w) X.A (eval e X.env) (EP X pins σ Q) X.xe s
def PT (X : Cx) (e : Expr) (t : TT) : Prop :=
  ∀ (pins : List (Addr × Obj)) (s : Shared) (σ : St) (H : Hp) (Q : Bool → Hp → Prop), Inv X pins σ H s → t σ H Q → wpAny (model X.prog X.w) X.A (isTrue e X.env (eval e X.env)) (TP X pins σ Q) X.xe s
/-- a test whatever its 'whole' is (and, or) -/
def PW (X : Cx) (e : Expr) (t : TT) : Prop :=
  ∀ (whole : Sem Value) (pins : List (Addr × Obj)) (s : Shared) (σ : St) (H : Hp) (Q : Bool → Hp → Prop), Inv X pins σ H s → t σ H Q → wpAny (model X.prog X.w) X.A (isTrue e X.env whole) (TP X pins σ Q) X.xe s
theorem PW.pt {X : Cx} {e : Expr} {t : TT} (h : PW X e t) : PT X e t := h _
/-- an argument list (no star), from the left -/
def PA (X : Cx) (es : List Expr) (t : TA) : Prop :=
  ∀ (pos : Pos) (pins : List (Addr × Obj)) (s : Shared) (σ : St) (H : Hp) (Q : List V → Hp → Prop), Inv X pins σ H s → t σ H Q → wpAny (model X.prog X.w) X.A (spliced (backTo pos (starEach es X.env))) (AP X pins σ Q) X.xe s
def PS (X : Cx) (st : Stmt) (t : TS) : Prop :=
  ∀ (pins : List (Addr × Obj)) (s : Shared) (σ : St) (H : Hp) (D : Ends), Inv X pins σ H s → t D σ H → wpAny (model X.prog X.w) X.A (exec st X.env) (SP X pins D) X.xe s
def PSs (X : Cx) (st : List Stmt) (t : TS) : Prop :=
  ∀ (pins : List (Addr × Obj)) (s : Shared) (σ : St) (H : Hp) (D : Ends), Inv X pins σ H s → t D σ H → wpAny (model X.prog X.w) X.A (execs st X.env) (SP X pins D) X.xe s
/-- weaken the end -/
theorem thn {α : Type} {t : Sem α} {Q Q' : α → Shared → Prop} {M : Model} {A : Around} {E : Value → Shared → Prop} {s : Shared} (h : wpAny M A t Q E s) (hQ : ∀ a s, Q a s → Q' a s) : wpAny M A t Q' E s := wpAny_mono h hQ fun _ _ x => x
end L2

namespace L2
open PySem PySem.Spec PyProof.Rows
section
variable {X : Cx}

/-! ### names and constants -/
def tVar (i : Nat) : TE := fun σ H Q => ∃ v, σ[i]? = some (some v) ∧ Q v H
def tC (v : V) : TE := fun _ H Q => Q v H
theorem pe_var {i : Nat} {x : Str} {pos : Pos} (hN : X.N[i]? = some x) (hv : Vis X.env.scope x) (hd : (x == ("__debug__" : Str)) = false := by decide) (hcd : (x == ("__classdict__" : Str)) = false := by decide) : PE X (.Name x pos) (tVar i) := by
  intro pins s σ H Q I h
  obtain ⟨v, e, h⟩ := h
  obtain ⟨m, hn, hl⟩ := I.loc
  obtain ⟨u, r, l⟩ := hl i x v hN e hv
  have fin : EP X pins σ Q u s := ⟨v, H, I, r, h⟩
  rcases l with ⟨hk, hm⟩ | ⟨hk, c, hc, hcell⟩
  · exact wpAny_Name (wpAny_loadName_local I.ok.kind hk hn hm fin) hd
  · rcases hk with hk | hk
    · exact wpAny_Name (wpAny_loadName_cell I.ok.kind hk hc hcell fin) hd
    · exact wpAny_Name (wpAny_loadName_free I.ok.kind hk hc hcell fin hcd) hd
theorem pe_int {i j pos} : PE X (.Constant (.int i) j pos) (tC (.int i)) := fun _ _ _ H _ I h => wpAny_Constant_int ⟨.int i, H, I.tok _, ⟨_, rfl⟩, h⟩
theorem pe_bl {b j pos} : PE X (.Constant (.bool b) j pos) (tC (.bl b)) := fun _ _ _ H _ I h => Constant_bool ⟨.bl b, H, I, rfl, h⟩
theorem pe_str {x j pos} : PE X (.Constant (.str x) j pos) (tC (.str x)) := fun _ _ _ H _ I h => Calls.Constant_str ⟨.str x, H, I.tok _, ⟨_, rfl⟩, h⟩

/-- a global name of the def -/
def Gl (X : Cx) (x : Str) : Prop := X.env.kindOf x = some .globalImplicit
theorem ld_glob {E : Value → Shared → Prop} {pins : List (Addr × Obj)} {s : Shared} {σ : St} {H : Hp} {x : Str} {u : Value} {pos : Pos} {Q : Value → Shared → Prop} (I : Inv X pins σ H s) (hg : Gl X x) (hm : X.mg x = some u) (h : Q u s)
    (hd : (x == ("__debug__" : Str)) = false := by decide) : wpAny (model X.prog X.w) X.A (eval (.Name x pos) X.env) Q E s :=
  Calls.Name_function_global I.ok.kind hg (Calls.loadGlobal_global (by rw [I.ok.glob]; exact I.mod.glob.keeps I.bk) hm h) hd
theorem ld_blt {E : Value → Shared → Prop} {pins : List (Addr × Obj)} {s : Shared} {σ : St} {H : Hp} {x : Str} {u : Value} {pos : Pos} {Q : Value → Shared → Prop} (I : Inv X pins σ H s) (hg : Gl X x) (hm : X.mg x = none) (hv : bootBuiltins x = some u) (h : Q u s)
    (hn : x ≠ "__name__" := by decide) (hd : (x == ("__debug__" : Str)) = false := by decide) : wpAny (model X.prog X.w) X.A (eval (.Name x pos) X.env) Q E s := by
  obtain ⟨mb, h1, h2⟩ := I.mod.blt
  exact Calls.Name_function_global I.ok.kind hg (Calls.loadGlobal_builtin (by rw [I.ok.glob]; exact I.mod.glob.keeps I.bk) hm (by rw [I.ok.blt]; exact h1.keeps I.bk) ((h2 x hn).trans hv) h) hd
theorem pe_bltn {x : Str} {v : V} {u : Value} {pos : Pos} (hg : Gl X x) (hm : X.mg x = none) (hv : bootBuiltins x = some u) (r : RelV v u) (hn : x ≠ "__name__" := by decide) (hd : (x == ("__debug__" : Str)) = false := by decide) : PE X (.Name x pos) (tC v) :=
  fun _ _ _ H _ I h => ld_blt I hg hm hv ⟨v, H, I, r, h⟩ hn hd

/-! ### arithmetic -/
variable {a b : Expr} {ta tb : TE} {pos : Pos}
/-! ### comparisons -/
/-- a comparison as a value, as a test -/
def tB (t : TE) : TT := fun σ H Q => t σ H fun x H1 => ∃ c, x = .bl c ∧ Q c H1
/-- an expression whose value is a bool, as a test -/
theorem pt_val {e : Expr} {t : TE} (h : PE X e t) (he : ∀ whole, isTrue e X.env whole = (do let v ← whole; standAt e.pos; holding [v] (truthy v)) := by intro _; rfl) : PT X e (tB t) := by
  intro pins s σ H Q I hw
  refine isTrue_plain (thn (h pins s σ H _ I hw) fun v s1 ⟨x, H1, I1, r1, q1⟩ => ?_) (he _)
  obtain ⟨d, rfl, q⟩ := q1
  cases r1
  exact wpAny_truthy_bool ⟨H1, I1, q⟩

/-! ### and, or, not -/
variable {tA tB' : TT} {rest : List Expr}
def tAnd (t u : TT) : TT := fun σ H Q => t σ H fun c H1 => if c = true then u σ H1 Q else Q false H1
def tOr (t u : TT) : TT := fun σ H Q => t σ H fun c H1 => if c = true then Q true H1 else u σ H1 Q
def tNot (t : TT) : TT := fun σ H Q => t σ H fun c H1 => Q (!c) H1
theorem pw_and1 (ha : PT X a tA) : PW X (.BoolOp .And [a] pos) tA := by
  intro wh pins s σ H Q I h
  refine isTrue_and (thn (ha pins s σ H Q I h) fun c s1 e => ?_)
  cases c with
  | true => exact isTrue_and_nil e
  | false => exact e
theorem pw_or1 (ha : PT X a tA) : PW X (.BoolOp .Or [a] pos) tA := by
  intro wh pins s σ H Q I h
  refine isTrue_or (thn (ha pins s σ H Q I h) fun c s1 e => ?_)
  cases c with
  | false => exact isTrue_or_nil e
  | true => exact e
theorem pw_and (ha : PT X a tA) (hb : PW X (.BoolOp .And (b :: rest) pos) tB') : PW X (.BoolOp .And (a :: b :: rest) pos) (tAnd tA tB') := by
  intro wh pins s σ H Q I h
  refine isTrue_and (thn (ha pins s σ H _ I h) fun c s1 ⟨H1, I1, q1⟩ => ?_)
  cases c with
  | true => exact hb wh pins s1 σ H1 Q I1 q1
  | false => exact ⟨H1, I1, q1⟩
theorem pw_or (ha : PT X a tA) (hb : PW X (.BoolOp .Or (b :: rest) pos) tB') : PW X (.BoolOp .Or (a :: b :: rest) pos) (tOr tA tB') := by
  intro wh pins s σ H Q I h
  refine isTrue_or (thn (ha pins s σ H _ I h) fun c s1 ⟨H1, I1, q1⟩ => ?_)
  cases c with
  | true => exact ⟨H1, I1, q1⟩
  | false => exact hb wh pins s1 σ H1 Q I1 q1
theorem pt_not (ha : PT X a tA) : PT X (.UnaryOp .Not a pos) (tNot tA) := by
  intro pins s σ H Q I h
  exact isTrue_not (ha pins s σ H (fun c H1 => Q (!c) H1) I h)
/-- .. as values (bools) -/
def tAndV (ta tb : TE) : TE := fun σ H Q => ta σ H fun x H1 => ∃ c, x = .bl c ∧ if c = true then tb σ H1 Q else Q (.bl false) H1
def tNotV (ta : TE) : TE := fun σ H Q => ta σ H fun x H1 => ∃ c, x = .bl c ∧ Q (.bl (!c)) H1
theorem pe_one {op} {t : TE} (h : PE X a t) : PE X (.BoolOp op [a] pos) t := fun pins s σ H Q I hw => BoolOp_one (h pins s σ H Q I hw)
theorem pe_and (ha : PE X a ta) (hb : PE X (.BoolOp .And (b :: rest) pos) tb) : PE X (.BoolOp .And (a :: b :: rest) pos) (tAndV ta tb) := by
  intro pins s σ H Q I h
  refine BoolOp_and (thn (ha pins s σ H _ I h) fun v s1 ⟨x, H1, I1, r1, q1⟩ => ?_)
  obtain ⟨c, rfl, q1⟩ := q1
  cases r1
  refine wpAny_truthy_bool ?_
  cases c with
  | true => exact hb pins s1 σ H1 Q I1 q1
  | false => exact ⟨.bl false, H1, I1, rfl, q1⟩
theorem pe_not (ha : PE X a ta) : PE X (.UnaryOp .Not a pos) (tNotV ta) := by
  intro pins s σ H Q I h
  refine UnaryOp_ (thn (ha pins s σ H _ I h) fun v s1 ⟨x, H1, I1, r1, q1⟩ => ?_)
  obtain ⟨c, rfl, q1⟩ := q1
  cases r1
  exact not_of (wpAny_truthy_bool ⟨.bl (!c), H1, I1, rfl, q1⟩)
end
end L2

namespace L2
open PySem PySem.Spec PyProof.Rows

/-! ### a list, a tuple that is read: tracked, frozen, or an object of the module -/
def SqL (K : PySem.W.Frag) (H : Hp) (a : Addr) (xs : List V) : Prop :=
  Rd H a (.lst xs) ∨
    ∃ (o : Obj) (its : Array Value) (n : Nat), K.lookup a = some o ∧ o.cls = .type "list" ∧ o.dict = none ∧ o.data = .seq its n ∧ its.size ≤ sizeLine ∧ Vals xs its.toList
def SqT (K : PySem.W.Frag) (H : Hp) (a : Addr) (xs : List V) : Prop :=
  Rd H a (.tup xs) ∨
    ∃ (o : Obj) (its : Array Value) (n : Nat), K.lookup a = some o ∧ o.cls = .type "tuple" ∧ o.data = .seq its n ∧ its.size ≤ sizeLine ∧ Vals xs its.toList
def absV : Value → Option V
  | .none => some .non
  | .bool b => some (.bl b)
  | .int i _ => some (.int i)
  | .str x _ => some (.str x)
  | .bytes b _ => some (.byt b)
  | .float b _ => some (.flt b)
  | .ref a => some (.ref a)
  | .type n => some (.ty n)
  | _ => none
theorem RelV.abs {x : V} {u : Value} (r : RelV x u) : absV u = some x := by
  cases x with
  | non => cases r; rfl
  | bl _ => cases r; rfl
  | int _ => obtain ⟨t, rfl⟩ := r; rfl
  | str _ => obtain ⟨t, rfl⟩ := r; rfl
  | byt _ => obtain ⟨t, rfl⟩ := r; rfl
  | flt _ => obtain ⟨t, rfl⟩ := r; rfl
  | ref _ => cases r; rfl
  | ty _ => cases r; rfl
theorem RelV.inj {x y : V} {u : Value} (r : RelV x u) (q : RelV y u) : x = y := Option.some.inj (r.abs.symm.trans q.abs)
theorem Vals.inj : ∀ {xs ys : List V} {us : List Value}, Vals xs us → Vals ys us → xs = ys
  | _, _, _, .nil, .nil => rfl
  | _, _, _, .cons r t, .cons r' t' => by rw [r.inj r', Vals.inj t t']
section
variable {X : Cx} {pins : List (Addr × Obj)} {σ : St} {H : Hp} {s : Shared} {a : Addr} {xs ys : List V}
theorem SqL.of {K : PySem.W.Frag} (h : H a = some (.lst xs)) : SqL K H a xs := .inl (.inl h)
theorem SqT.of {K : PySem.W.Frag} (h : H a = some (.tup xs)) : SqT K H a xs := .inl (.inl h)
theorem Inv.list (I : Inv X pins σ H s) (h : SqL X.K H a xs) : ∃ its : List Value, Vals xs its ∧ PlainL s.heap a its.toArray ∧ xs.length ≤ sizeLine := by
  rcases h with h | ⟨o, its, n, hk, hc, hd, hs, hz, r⟩
  · obtain ⟨z, its, n, r, e⟩ := h.ok I.hok
    exact ⟨its, r, ⟨_, n, e, rfl, rfl, rfl⟩, z⟩
  · refine ⟨its.toList, r, ⟨o, n, I.kIn a o hk, hc, hd, by simpa using hs⟩, ?_⟩
    have e := r.length
    simp only [Array.length_toList] at e
    omega
theorem Inv.tuple (I : Inv X pins σ H s) (h : SqT X.K H a xs) : ∃ its : List Value, Vals xs its ∧ IsTup s.heap a its.toArray ∧ xs.length ≤ sizeLine := by
  rcases h with h | ⟨o, its, n, hk, hc, hs, hz, r⟩
  · obtain ⟨z, its, r, p⟩ := h.ok I.hok
    exact ⟨its, r, p, z⟩
  · refine ⟨its.toList, r, ⟨o, I.kIn a o hk, hc, n, by simpa using hs⟩, ?_⟩
    have e := r.length
    simp only [Array.length_toList] at e
    omega
theorem Inv.list_inj (I : Inv X pins σ H s) (h : SqL X.K H a xs) (h' : SqL X.K H a ys) : xs = ys := by
  obtain ⟨its, r, ⟨o, n, e, _, _, d⟩, _⟩ := I.list h
  obtain ⟨its', r', ⟨o', n', e', _, _, d'⟩, _⟩ := I.list h'
  rw [e] at e'; cases e'
  rw [d] at d'
  injection d' with d1 _
  have : its = its' := by simpa using congrArg Array.toList d1
  subst this
  exact r.inj r'
theorem Inv.tuple_inj (I : Inv X pins σ H s) (h : SqT X.K H a xs) (h' : SqT X.K H a ys) : xs = ys := by
  obtain ⟨its, r, ⟨o, e, _, n, d⟩, _⟩ := I.tuple h
  obtain ⟨its', r', ⟨o', e', _, n', d'⟩, _⟩ := I.tuple h'
  rw [e] at e'; cases e'
  rw [d] at d'
  injection d' with d1 _
  have : its = its' := by simpa using congrArg Array.toList d1
  subst this
  exact r.inj r'
end

/-! ### another wish about exceptions -/
abbrev Cx.wish (X : Cx) (E : Value → Shared → Prop) : Cx := { X with xe := E }
/-- no exception leaves -/
abbrev Cx.nox (X : Cx) : Cx := X.wish fun _ _ => False
theorem Cx.Ok.wish {X : Cx} (ok : X.Ok) (E : Value → Shared → Prop) : (X.wish E).Ok :=
  ⟨ok.mod, ok.kind, ok.glob, ok.blt, ok.above, ok.inj, ok.has, ok.cab, ok.hd, ok.frames, ok.stk, ok.exf, ok.bs, ok.bsz, ok.noex, ok.exfs, ok.funs, ok.frf⟩
theorem Cx.Ok.unwish {X : Cx} {E : Value → Shared → Prop} (ok : (X.wish E).Ok) : X.Ok :=
  ⟨ok.mod, ok.kind, ok.glob, ok.blt, ok.above, ok.inj, ok.has, ok.cab, ok.hd, ok.frames, ok.stk, ok.exf, ok.bs, ok.bsz, ok.noex, ok.exfs, ok.funs, ok.frf⟩
section
variable {X : Cx} {pins : List (Addr × Obj)} {σ : St} {H : Hp} {s : Shared} {E : Value → Shared → Prop}
theorem Inv.wish (I : Inv X pins σ H s) (E : Value → Shared → Prop) : Inv (X.wish E) pins σ H s := ⟨I.ok.wish E, I.os, I.bare, I.base, I.loc, I.cell, I.free, I.freeC, I.pin, I.hok, I.len⟩
theorem Inv.unwish (I : Inv (X.wish E) pins σ H s) : Inv X pins σ H s := ⟨I.ok.unwish, I.os, I.bare, I.base, I.loc, I.cell, I.free, I.freeC, I.pin, I.hok, I.len⟩
theorem SP.unwish {D : Ends} {f : Flow} {s' : Shared} (h : SP (X.wish E) pins D f s') : SP X pins D f s' := by
  cases f with
  | next => obtain ⟨σ', H', I, q⟩ := h; exact ⟨σ', H', I.unwish, q⟩
  | brk => obtain ⟨σ', H', I, q⟩ := h; exact ⟨σ', H', I.unwish, q⟩
  | cont => obtain ⟨σ', H', I, q⟩ := h; exact ⟨σ', H', I.unwish, q⟩
  | ret u => obtain ⟨v, σ', H', I, r, q⟩ := h; exact ⟨v, σ', H', I.unwish, r, q⟩
theorem PE.nox {e : Expr} {t : TE} (h : PE X.nox e t) : PE X e t := fun pins s σ H Q I hw =>
  wpAny_mono (h pins s σ H Q (I.wish _) hw) (fun _ _ ⟨v, H', I', r, q⟩ => ⟨v, H', I'.unwish, r, q⟩) fun _ _ z => False.elim z
theorem PT.nox {e : Expr} {t : TT} (h : PT X.nox e t) : PT X e t := fun pins s σ H Q I hw =>
  wpAny_mono (h pins s σ H Q (I.wish _) hw) (fun _ _ ⟨H', I', q⟩ => ⟨H', I'.unwish, q⟩) fun _ _ z => False.elim z
theorem PSs.nox {st : List Stmt} {t : TS} (h : PSs X.nox st t) : PSs X st t := fun pins s σ H D I hw =>
  wpAny_mono (h pins s σ H D (I.wish _) hw) (fun _ _ q => q.unwish) fun _ _ z => False.elim z
end

/-! ### blocks and small statements -/
section
variable {X : Cx} {st : Stmt} {rest : List Stmt} {t u : TS} {e : Expr} {te : TE} {pos : Pos}
def tNext : TS := fun D σ H => D.nx σ H
def tSeq (t u : TS) : TS := fun D σ H => t { D with nx := u D } σ H
theorem pss_nil : PSs X [] tNext := fun _ _ σ H _ I h => wpAny_execs_nil ⟨σ, H, I, h⟩
theorem pss_cons (h1 : PS X st t) (h2 : PSs X rest u) : PSs X (st :: rest) (tSeq t u) := by
  intro pins s σ H D I h
  refine wpAny_execs_cons (thn (h1 pins s σ H { D with nx := u D } I h) fun f s1 q => ?_)
  cases f with
  | next =>
    obtain ⟨σ', H', I', q⟩ := q
    exact h2 pins s1 σ' H' D I' q
  | ret v => exact q
  | brk => exact q
  | cont => exact q
theorem pss_one (h1 : PS X st t) : PSs X [st] t := by
  intro pins s σ H D I h
  refine wpAny_execs_cons (thn (h1 pins s σ H D I h) fun f s1 q => ?_)
  cases f with
  | next => exact wpAny_execs_nil q
  | ret v => exact q
  | brk => exact q
  | cont => exact q
/-- in a def's body nothing is shown -/
theorem Inv.quiet {pins : List (Addr × Obj)} {σ : St} {H : Hp} {s : Shared} (I : Inv X pins σ H s) : interactive X.env = false := by simp [interactive, I.ok.kind]
/-- an expression whose value is dropped -/
def tDrop (te : TE) : TS := fun D σ H => te σ H fun _ H1 => D.nx σ H1
theorem ps_expr (he : PE X e te) (hs : swapsWith e none pos.line X.env = pure false := by rfl) : PS X (.Expr e pos) (tDrop te) := by
  intro pins s σ H D I h
  exact wpAny_Expr_any (thn (he pins s σ H _ I h) fun v s1 ⟨x, H1, I1, r1, q1⟩ => ⟨σ, H1, I1, q1⟩) I.quiet hs
def tRet (te : TE) : TS := fun D σ H => te σ H D.rt
theorem ps_ret (he : PE X e te) : PS X (.Return (some e) pos) (tRet te) := by
  intro pins s σ H D I h
  exact wpAny_Return_some (thn (he pins s σ H _ I h) fun v s1 ⟨x, H1, I1, r1, q1⟩ => ⟨x, σ, H1, I1, r1, q1⟩)
def tIfS (c : TT) (t u : TS) : TS := fun D σ H => c σ H fun b H1 => if b = true then t D σ H1 else u D σ H1
theorem ps_if {c : Expr} {a b : List Stmt} {tc : TT} (hc : PT X c tc) (ha : PSs X a t) (hb : PSs X b u) : PS X (.If c a b pos) (tIfS tc t u) := by
  intro pins s σ H D I h
  refine wpAny_If (thn (hc pins s σ H _ I h) fun d s1 ⟨H1, I1, q1⟩ => ?_)
  cases d with
  | true => exact ha pins s1 σ H1 D I1 q1
  | false => exact hb pins s1 σ H1 D I1 q1
end

/-! ### targets -/
abbrev TG := V → St → Hp → (St → Hp → Prop) → Prop
abbrev TGs := List V → St → Hp → (St → Hp → Prop) → Prop
def PG (X : Cx) (target : Expr) (t : TG) : Prop :=
  ∀ (pins : List (Addr × Obj)) (s : Shared) (σ : St) (H : Hp) (v : V) (u : Value) (Q : St → Hp → Prop), Inv X pins σ H s → RelV v u → t v σ H Q →
    wpAny (model X.prog X.w) X.A (assign target X.env u) (fun _ s' => ∃ σ' H', Inv X pins σ' H' s' ∧ Q σ' H') X.xe s
/-- several targets, one after another -/
def PGs (X : Cx) (ts : List Expr) (t : TGs) : Prop :=
  ∀ (pins : List (Addr × Obj)) (s : Shared) (σ : St) (H : Hp) (vs : List V) (us : List Value) (Q : St → Hp → Prop), Inv X pins σ H s → Vals vs us → t vs σ H Q →
    wpAny (model X.prog X.w) X.A (assignInOrder ((assignEach ts X.env).map (·.2)) us) (fun _ s' => ∃ σ' H', Inv X pins σ' H' s' ∧ Q σ' H') X.xe s
/-- a op= b, by values -/
abbrev TIp := V → V → Hp → VK → Prop
def PIp (X : Cx) (op : Operator) (t : TIp) : Prop :=
  ∀ (pins : List (Addr × Obj)) (s : Shared) (σ : St) (H : Hp) (x y : V) (v u : Value) (Q : VK), Inv X pins σ H s → RelV x v → RelV y u → t x y H Q →
    wpAny (model X.prog X.w) X.A (inplaceOp op v u) (EP X pins σ Q) X.xe s
section
variable {X : Cx} {pos : Pos}
def gName (i : Nat) : TG := fun v σ H Q => Q (σ.set i (some v)) H
theorem pg_name {i : Nat} {x : Str} (hN : X.N.Nodup) (hi : X.N[i]? = some x) (hx : Loc X.env.scope x) (hf : X.fn x = true ∨ X.env.scope.names.lookup x = some .local := by first | exact .inl rfl | exact .inr rfl | assumption) : PG X (.Name x pos) (gName i) := by
  intro pins s σ H v u Q I r h
  exact wpAny_assign_Name (store_ok I hN hi hx r (fun s' I' => ⟨_, H, I', h⟩) hf)
def gNil : TGs := fun vs σ H Q => vs = [] ∧ Q σ H
def gCons (t : TG) (u : TGs) : TGs := fun vs σ H Q => ∃ v r, vs = v :: r ∧ t v σ H fun σ' H' => u r σ' H' Q
theorem pgs_nil : PGs X [] gNil := by
  intro pins s σ H vs us Q I r h
  obtain ⟨e, h⟩ := h
  subst e
  cases r
  exact assignInOrder_nil ⟨σ, H, I, h⟩
theorem pgs_cons {e : Expr} {es : List Expr} {t : TG} {u : TGs} (h1 : PG X e t) (h2 : PGs X es u)
    (hs : (assignEach (e :: es) X.env).map (·.2) = assign e X.env :: (assignEach es X.env).map (·.2) := by rfl) : PGs X (e :: es) (gCons t u) := by
  intro pins s σ H vs us Q I r h
  obtain ⟨v, vr, e1, h⟩ := h
  subst e1
  cases r with
  | cons r rr =>
    rw [hs]
    refine assignInOrder_cons (thn (h1 pins s σ H _ _ _ I r h) fun _ s1 ⟨σ1, H1, I1, q1⟩ => ?_)
    exact h2 pins s1 σ1 H1 _ _ Q I1 rr q1
/-- (a, b, ..) = a tuple of that length -/
def gTup (K : PySem.W.Frag) (n : Nat) (t : TGs) : TG := fun v σ H Q => ∃ a xs, v = .ref a ∧ SqT K H a xs ∧ xs.length = n ∧ t xs σ H Q
theorem pg_tup {es : List Expr} {k : Nat} {t : TGs} {n : Nat} (hc : X.calm = true) (h : PGs X es t)
    (hn : (assignEach es X.env).length = n := by rfl) (hst : (assignEach es X.env).findIdx? (·.1) = none := by rfl) : PG X (.Tuple es k pos) (gTup X.K n t) := by
  intro pins s σ H v u Q I r hw
  obtain ⟨a, xs, e1, hq, hl, hw⟩ := hw
  subst e1
  cases r
  obtain ⟨its, rv, ht, hz⟩ := I.tuple hq
  refine assign_Tuple_tuple (I.ok.hd hc) ht (by simp [hn, ← hl, rv.length]) hst fun h' hx => ?_
  have I1 : Inv X pins σ H { s with heap := h' } := I.kept (t' := s.toks) fun b o e => hx b o (Nat.ne_of_lt (Heap.lt_size e)) e
  exact h pins _ σ H xs _ Q I1 (by simpa using rv) hw
/-- target = value -/
def tAsg (te : TE) (g : TG) : TS := fun D σ H => te σ H fun x H1 => g x σ H1 D.nx
theorem ps_asg {tg e : Expr} {te : TE} {g : TG} (he : PE X e te) (hg : PG X tg g) (hs : swapsWithSole [tg] e pos.line X.env = pure false := by rfl) (hw : swappedStores [tg] e X.env = pure none := by rfl)
    (h1 : (assignEach [tg] X.env).map (·.2) = [assign tg X.env] := by rfl) : PS X (.Assign [tg] e pos) (tAsg te g) := by
  intro pins s σ H D I h
  refine wpAny_Assign_stores (thn (he pins s σ H _ I h) fun v s1 ⟨x, H1, I1, r1, q1⟩ => ?_) hs hw
  rw [h1]
  exact thn (hg pins s1 σ H1 x v _ I1 r1 q1) fun _ s2 q => q
/-- name = value -/
theorem ps_set {i : Nat} {x : Str} {e : Expr} {te : TE} {pos' : Pos} (hN : X.N.Nodup) (hi : X.N[i]? = some x) (hx : Loc X.env.scope x) (he : PE X e te) (hs : swapsWith e (some (.Name x pos')) pos.line X.env = pure false := by rfl) (hf : X.fn x = true ∨ X.env.scope.names.lookup x = some .local := by first | exact .inl rfl | exact .inr rfl | assumption) :
    PS X (.Assign [.Name x pos'] e pos) (tAsg te (gName i)) := by
  intro pins s σ H D I h
  refine wpAny_Assign_Name (thn (he pins s σ H _ I h) fun v s1 ⟨y, H1, I1, r1, q1⟩ => ?_) hs
  exact store_ok I1 hN hi hx r1 (fun s2 I2 => ⟨_, H1, I2, q1⟩) hf
/-- name op= e -/
def tAug (i : Nat) (te : TE) (ti : TIp) : TS := fun D σ H => ∃ x, σ[i]? = some (some x) ∧ te σ H fun y H1 => ti x y H1 fun z H2 => D.nx (σ.set i (some z)) H2
theorem ps_aug {i : Nat} {x : Str} {e : Expr} {te : TE} {op : Operator} {ti : TIp} {pos' : Pos} (hN : X.N.Nodup) (hi : X.N[i]? = some x) (hx : Loc X.env.scope x) (he : PE X e te) (ho : PIp X op ti) (hf : X.fn x = true ∨ X.env.scope.names.lookup x = some .local := by first | exact .inl rfl | exact .inr rfl | assumption) :
    PS X (.AugAssign (.Name x pos') op e pos) (tAug i te ti) := by
  intro pins s σ H D I h
  obtain ⟨v, e1, h⟩ := h
  obtain ⟨m, hn, hl⟩ := I.loc
  have vis : Vis X.env.scope x := by rcases hx with k | k; exact .inl k; exact .inr (.inl k)
  obtain ⟨u, r, l⟩ := hl i x v hi e1 vis
  refine wpAny_AugAssign_Name ?_
  have go : wpAny (model X.prog X.w) X.A (eval e X.env) (fun w s₂ => wpAny (model X.prog X.w) X.A (inplaceOp op u w) (fun r s₃ => wpAny (model X.prog X.w) X.A (storeName X.env x r) (fun _ => SP X pins D .next) X.xe s₃) X.xe s₂) X.xe s := by
    refine thn (he pins s σ H _ I h) fun w s1 ⟨y, H1, I1, r1, q1⟩ => ?_
    refine thn (ho pins s1 σ H1 v y u w _ I1 r r1 q1) fun z s2 ⟨zv, H2, I2, r2, q2⟩ => ?_
    exact store_ok I2 hN hi hx r2 (fun s3 I3 => ⟨_, H2, I3, q2⟩) hf
  rcases l with ⟨hk, hm⟩ | ⟨hk, c, hc, hcell⟩
  · exact wpAny_loadName_local I.ok.kind hk hn hm go
  · rcases hk with hk | hk
    · exact wpAny_loadName_cell I.ok.kind hk hc hcell go
    · rcases hx with k | k
      · have : X.env.scope.names.lookup x = some .free := hk
        rw [k] at this; cases this
      · have : X.env.scope.names.lookup x = some .free := hk
        rw [k] at this; cases this
end

/-! ### while -/
section
variable {X : Cx} {pos : Pos}
/-- the invariant W with its measure -/
def tWhile (c : TT) (tb : TS) : TS := fun D σ H => ∃ W : Nat → St → Hp → Prop, (∃ m, W m σ H) ∧ ∀ m σ H, W m σ H →
  c σ H fun b H1 => if b = true then ∃ N : St → Hp → Prop, (∀ σ' H', N σ' H' → ∃ m', m' < m ∧ W m' σ' H') ∧ tb { D with nx := N, ct := N, bk := D.nx } σ H1 else D.nx σ H1
theorem ps_while {c : Expr} {body : List Stmt} {tc : TT} {tb : TS} (hp : PassesOwn (model X.prog X.w) X.A X.env X.xe) (hc : PT X c tc) (hb : PSs X body tb) : PS X (.While c body [] pos) (tWhile tc tb) := by
  intro pins s σ H D I h
  obtain ⟨W, ⟨m0, w0⟩, turn⟩ := h
  refine wpAny_While (codeAny_whileLoop (fun n s' => ∃ σ' H', Inv X pins σ' H' s' ∧ W n σ' H') ?_ m0 ⟨σ, H, I, w0⟩)
  rintro n s1 ⟨σ1, H1, I1, w1⟩
  refine wpAny_passesOwn hp (thn (hc pins s1 σ1 H1 _ I1 (turn n σ1 H1 w1)) fun b s2 ⟨H2, I2, q2⟩ => ?_)
  cases b with
  | true =>
    obtain ⟨N, hN, q2⟩ := q2
    rw [if_pos rfl]
    refine wpAny_passesOwn hp (thn (hb pins s2 σ1 H2 _ I2 q2) fun f s3 q3 => ?_)
    cases f with
    | next =>
      obtain ⟨σ3, H3, I3, n3⟩ := q3
      obtain ⟨m', hm, w3⟩ := hN σ3 H3 n3
      exact ⟨m', hm, σ3, H3, I3, w3⟩
    | cont =>
      obtain ⟨σ3, H3, I3, n3⟩ := q3
      obtain ⟨m', hm, w3⟩ := hN σ3 H3 n3
      exact ⟨m', hm, σ3, H3, I3, w3⟩
    | brk => exact q3
    | ret v => exact q3
  | false =>
    rw [if_neg Bool.false_ne_true]
    exact wpAny_execs_nil ⟨σ1, H2, I2, q2⟩
end

/-! ### what a loop or a comprehension walks -/
/-- at turn i: it yields x (the heap may grow), or it stops -/
structure It where
  go : Nat → Hp → Prop
  yld : Nat → Hp → V → Hp → Prop
  stop : Nat → Hp → Prop
/-- the iterator's own objects may turn: they are not the frame's, not pinned, younger than the entry (or a comprehension's own) -/
def FpOk (X : Cx) (pins : List (Addr × Obj)) (H : Hp) (b : Addr) : Prop :=
  H b = none ∧ b ≠ X.env.locals ∧ b ∉ X.fs ∧ (b ∈ X.ex ∨ X.s₀.heap.objs.size ≤ b) ∧ (∀ x c, X.env.cells.lookup x = some c → c ≠ b) ∧ ∀ p ∈ X.pn ++ pins, p.1 ≠ b
theorem Inv.fpOk {X : Cx} {pins : List (Addr × Obj)} {σ : St} {H H' : Hp} {s : Shared} {b : Addr} (I : Inv X pins σ H s) (hb : s.heap.objs.size ≤ b) (hn : H' b = none) : FpOk X pins H' b := by
  refine ⟨hn, Nat.ne_of_gt (Nat.lt_of_lt_of_le I.lt hb), I.nofs hb, .inr (Nat.le_trans I.sz hb), fun x c e z => ?_, fun p hp z => ?_⟩
  · obtain ⟨v, q⟩ := I.cell x c e
    exact absurd (Nat.lt_of_lt_of_le q.lt (by rw [z]; exact hb)) (Nat.lt_irrefl _)
  · exact absurd (Nat.lt_of_lt_of_le (Heap.lt_size (I.pin p hp).1) (by rw [z]; exact hb)) (Nat.lt_irrefl _)
structure Turn (P : Program) (w : World) (K : PySem.W.Frag) (tg : Expr) (J : It) (fp : List Addr) (it : Addr) (tn : Nat → Heap → Prop) : Prop where
  mem : it ∈ fp
  obj : ∀ i h, tn i h → ∀ b ∈ fp, ∃ o, h.get? b = some o ∧ ∀ v, o.data ≠ .cell v
  keep : ∀ i h h', tn i h → (∀ b ∈ fp, ∀ o, h.get? b = some o → h'.get? b = some o) → tn i h'
  item : ∀ (X : Cx), X.prog = P → X.w = w → X.K = K → X.calm = true → ∀ (i : Nat) (pins : List (Addr × Obj)) (s : Shared) (σ : St) (H : Hp) (E : Value → Shared → Prop), Inv X pins σ H s → (∀ b ∈ fp, FpOk X pins H b) → tn i s.heap → J.go i H →
    wpAny (model P w) X.A (pyNext (.ref it)) (fun r s1 => ∃ u, r = some u ∧
      wpAny (model P w) X.A (letOwnedTupleGo tg (.ref it) u) (fun _ s2 => ∃ x H', Inv X pins σ H' s2 ∧ RelV x u ∧ J.yld i H x H' ∧ tn (i + 1) s2.heap ∧ ∀ b ∈ fp, H' b = none) E s1) E s
  done : ∀ (X : Cx), X.prog = P → X.w = w → X.K = K → X.calm = true → ∀ (i : Nat) (pins : List (Addr × Obj)) (s : Shared) (σ : St) (H : Hp) (E : Value → Shared → Prop), Inv X pins σ H s → (∀ b ∈ fp, FpOk X pins H b) → tn i s.heap → J.stop i H →
    wpAny (model P w) X.A (pyNext (.ref it)) (fun r s1 => r = none ∧ Inv X pins σ H s1) E s
  self : ∀ (A : Around) (i : Nat) (s : Shared) (Q : Value → Shared → Prop) (E : Value → Shared → Prop), tn i s.heap → Q (.ref it) s → wpAny (model P w) A (pyIter (.ref it)) Q E s
abbrev TI := St → Hp → (It → Hp → Prop) → Prop
/-- an iterator has come -/
def PIE (X : Cx) (pins : List (Addr × Obj)) (σ : St) (tg : Expr) (R : It → Hp → Prop) (itv : Value) (s2 : Shared) : Prop :=
  ∃ (it : Addr) (fp : List Addr) (tn : Nat → Heap → Prop) (J : It) (H' : Hp), itv = .ref it ∧ Inv X pins σ H' s2 ∧ Turn X.prog X.w X.K tg J fp it tn ∧ tn 0 s2.heap ∧ (∀ b ∈ fp, FpOk X pins H' b) ∧ R J H'
def PI (X : Cx) (tg iter : Expr) (wi : TI) : Prop :=
  ∀ (pins : List (Addr × Obj)) (s : Shared) (σ : St) (H : Hp) (R : It → Hp → Prop), Inv X pins σ H s → wi σ H R →
    wpAny (model X.prog X.w) X.A (eval iter X.env) (fun v s1 => wpAny (model X.prog X.w) X.A (pyIter v) (PIE X pins σ tg R) X.xe s1) X.xe s

/-- the step ahead of the store is nothing for an iterator that keeps no tuple -/
theorem go_of {M : Model} {A : Around} {E : Value → Shared → Prop} {s : Shared} {tg : Expr} {it : Addr} {u : Value} {o : Obj} {n : String} {vs : Array Value} {Q : Unit → Shared → Prop} (ho : s.heap.get? it = some o) (hc : o.cls = .type n) (hd : o.data = .fields vs)
    (hn : ["enumerate", "zip", "dict_itemiterator", "dict_reverseitemiterator", "odict_iterator", "itertools.zip_longest", "itertools.pairwise"].contains n = false) (hQ : Q () s) : wpAny M A (letOwnedTupleGo tg (.ref it) u) Q E s := by
  unfold letOwnedTupleGo
  cases tg <;> first
    | exact wpAny_pure hQ
    | (cases u <;> first
        | exact wpAny_pure hQ
        | (refine wpAny_bind (wpAny_load ho ?_)
           rw [hc, hd]
           show wpAny M A (if (["enumerate", "zip", "dict_itemiterator", "dict_reverseitemiterator", "odict_iterator", "itertools.zip_longest", "itertools.pairwise"].contains n && vs[0]? == some (rawInt _)) = true then _ else _) Q E s
           rw [if_neg (by intro h; rw [hn, Bool.false_and] at h; cases h)]
           exact wpAny_pure hQ))

/-- the list at a, as it stands at each turn (a loop may append to it) -/
def Itl (K : PySem.W.Frag) (a : Addr) : It :=
  ⟨fun i H => ∃ xs x, SqL K H a xs ∧ xs[i]? = some x, fun i H x H' => H' = H ∧ ∀ xs, SqL K H a xs → xs[i]? = some x, fun i H => ∃ xs, SqL K H a xs ∧ xs.length ≤ i⟩
def Itt (K : PySem.W.Frag) (a : Addr) : It :=
  ⟨fun i H => ∃ xs x, SqT K H a xs ∧ xs[i]? = some x, fun i H x H' => H' = H ∧ ∀ xs, SqT K H a xs → xs[i]? = some x, fun i H => ∃ xs, SqT K H a xs ∧ xs.length ≤ i⟩
/-- lo, lo + 1, .. (n of them) -/
def Itr (lo : Int) (n : Nat) : It := ⟨fun i _ => i < n, fun i H x H' => H' = H ∧ x = .int (lo + i), fun i _ => n ≤ i⟩
theorem turn_list {P : Program} {w : World} {K : PySem.W.Frag} {tg : Expr} (a it : Addr) : Turn P w K tg (Itl K a) [it] it (fun i h => h.IsListIter it a i) where
  mem := by simp
  obj := fun i h st b hb => by
    have e : b = it := by simpa using hb
    subst e
    obtain ⟨o, e, c, d⟩ := st
    exact ⟨o, e, fun v z => by rw [d] at z; cases z⟩
  keep := fun i h h' st k => st.at fun o e => k it (by simp) o e
  item := by
    intro X hP hw hK hc i pins s σ H E I hf st hg
    subst hP hw hK
    obtain ⟨xs, x, hq, hx⟩ := hg
    obtain ⟨its, rv, p, hz⟩ := I.list hq
    obtain ⟨u, hu, ru⟩ := rv.get hx
    obtain ⟨f0, f1, f2, f3, f4, f5⟩ := hf it (by simp)
    refine wpAny_pyNext_list_item st p.isList (x := u) (by simpa using hu) fun h' st' sb => ?_
    have I1 : Inv X pins σ H { s with heap := h' } := I.turned (t' := s.toks) (fun b o hb e => (sb.2 b hb).trans e) f0 f1 f3 f4 f5
    obtain ⟨o, e, c, d⟩ := id st'
    exact ⟨u, rfl, go_of (s := { s with heap := h' }) e c d (by decide) ⟨x, H, I1, ru, ⟨rfl, fun ys hy => by rw [I.list_inj hy hq]; exact hx⟩, st', fun b hb => (hf b hb).1⟩⟩
  done := by
    intro X hP hw hK hc i pins s σ H E I hf st hg
    subst hP hw hK
    obtain ⟨xs, hq, hx⟩ := hg
    obtain ⟨its, rv, p, hz⟩ := I.list hq
    obtain ⟨f0, f1, f2, f3, f4, f5⟩ := hf it (by simp)
    have hl := rv.length
    exact wpAny_pyNext_list_end (I.ok.hd hc) st p.isList (by simp; omega) fun h' eb => ⟨rfl, I.turned (t' := s.toks) (fun b o hb e => eb b o hb e) f0 f1 f3 f4 f5⟩
  self := fun _ _ _ _ _ st h => wpAny_pyIter_listiter st h
theorem turn_tuple {P : Program} {w : World} {K : PySem.W.Frag} {tg : Expr} (a it : Addr) : Turn P w K tg (Itt K a) [it] it (fun i h => h.IsTupleIter it a i) where
  mem := by simp
  obj := fun i h st b hb => by
    have e : b = it := by simpa using hb
    subst e
    obtain ⟨o, e, c, d⟩ := st
    exact ⟨o, e, fun v z => by rw [d] at z; cases z⟩
  keep := fun i h h' st k => st.at fun o e => k it (by simp) o e
  item := by
    intro X hP hw hK hc i pins s σ H E I hf st hg
    subst hP hw hK
    obtain ⟨xs, x, hq, hx⟩ := hg
    obtain ⟨its, rv, p, hz⟩ := I.tuple hq
    obtain ⟨u, hu, ru⟩ := rv.get hx
    obtain ⟨f0, f1, f2, f3, f4, f5⟩ := hf it (by simp)
    refine wpAny_pyNext_tuple_item st (show s.heap.IsTuple a its.toArray from p) (x := u) (by simpa using hu) fun h' st' sb => ?_
    have I1 : Inv X pins σ H { s with heap := h' } := I.turned (t' := s.toks) (fun b o hb e => (sb.2 b hb).trans e) f0 f1 f3 f4 f5
    obtain ⟨o, e, c, d⟩ := id st'
    exact ⟨u, rfl, go_of (s := { s with heap := h' }) e c d (by decide) ⟨x, H, I1, ru, ⟨rfl, fun ys hy => by rw [I.tuple_inj hy hq]; exact hx⟩, st', fun b hb => (hf b hb).1⟩⟩
  done := by
    intro X hP hw hK hc i pins s σ H E I hf st hg
    subst hP hw hK
    obtain ⟨xs, hq, hx⟩ := hg
    obtain ⟨its, rv, p, hz⟩ := I.tuple hq
    obtain ⟨f0, f1, f2, f3, f4, f5⟩ := hf it (by simp)
    have hl := rv.length
    exact wpAny_pyNext_tuple_end (I.ok.hd hc) st (show s.heap.IsTuple a its.toArray from p) (by simp; omega) fun h' eb => ⟨rfl, I.turned (t' := s.toks) (fun b o hb e => eb b o hb e) f0 f1 f3 f4 f5⟩
  self := fun _ _ _ _ _ st h => wpAny_pyIter_tupleiter st h
theorem turn_range {P : Program} {w : World} {K : PySem.W.Frag} {tg : Expr} (it : Addr) (lo : Int) (n : Nat) : Turn P w K tg (Itr lo n) [it] it (fun i h => IsRangeIter h it (lo + (i : Nat) * 1) ((n : Int) - (i : Nat)) 1) where
  mem := by simp
  obj := fun i h st b hb => by
    have e : b = it := by simpa using hb
    subst e
    exact ⟨_, st, fun v z => by
      have z' : Data.fields _ = Data.cell v := z
      cases z'⟩
  keep := fun i h h' st k => k it (by simp) _ st
  item := by
    intro X hP hw hK hc i pins s σ H E I hf st hg
    subst hP hw hK
    obtain ⟨f0, f1, f2, f3, f4, f5⟩ := hf it (by simp)
    have W := Walks.range (prog := X.prog) (w := X.w) (I.ok.hd hc) it lo 1 n
    refine W.item i s _ _ hg st fun v h' tk hv st' kk => ?_
    obtain ⟨t, rfl⟩ := hv
    have I1 : Inv X pins σ H { s with heap := h', toks := tk } := I.turned (fun b o hb e => kk b o (by simpa using hb) e) f0 f1 f3 f4 f5
    refine ⟨_, rfl, go_of (s := { s with heap := h', toks := tk }) (n := "range_iterator") st' rfl rfl (by decide) ⟨.int (lo + i), H, I1, ⟨t, ?_⟩, ⟨rfl, rfl⟩, st', fun b hb => (hf b hb).1⟩⟩
    rw [Int.mul_one]
  done := by
    intro X hP hw hK hc i pins s σ H E I hf st hg
    subst hP hw hK
    obtain ⟨f0, f1, f2, f3, f4, f5⟩ := hf it (by simp)
    exact wpAny_pyNext_range_end (I.ok.hd hc) st (by have : n ≤ i := hg; omega) fun h' eb => ⟨rfl, I.turned (t' := s.toks) (fun b o hb e => eb b o hb e) f0 f1 f3 f4 f5⟩
  self := fun _ _ _ _ _ st h => wpAny_pyIter_rangeiter st h
end L2

namespace L2
open PySem PySem.Spec PyProof.Rows
section
variable {X : Cx} {tg : Expr}
def iList (K : PySem.W.Frag) (tl : TE) : TI := fun σ H R => tl σ H fun x H1 => ∃ a, x = .ref a ∧ (∃ xs, SqL K H1 a xs) ∧ R (Itl K a) H1
def iTup (K : PySem.W.Frag) (tl : TE) : TI := fun σ H R => tl σ H fun x H1 => ∃ a, x = .ref a ∧ (∃ xs, SqT K H1 a xs) ∧ R (Itt K a) H1
theorem pi_list {l : Expr} {tl : TE} (hl : PE X l tl) : PI X tg l (iList X.K tl) := by
  intro pins s σ H R I h
  refine thn (hl pins s σ H _ I h) fun v s1 ⟨x, H1, I1, r1, q1⟩ => ?_
  obtain ⟨a, e, ⟨xs, hq⟩, q⟩ := q1
  subst e
  cases r1
  obtain ⟨its, rv, p, hz⟩ := I1.list hq
  refine wpAny_pyIter_list p.isList ?_
  refine ⟨s1.heap.objs.size, [s1.heap.objs.size], _, _, H1, rfl, I1.kept (t' := s1.toks) fun b o e => Heap.get?_push_of_some _ e, turn_list a _, ⟨_, Heap.get?_push_size _ rfl, rfl, rfl⟩, fun b hb => ?_, q⟩
  have e : b = s1.heap.objs.size := by simpa using hb
  subst e
  exact I1.fpOk (Nat.le_refl _) (I1.hok.fresh (Nat.le_refl _))
theorem pi_tup {l : Expr} {tl : TE} (hl : PE X l tl) : PI X tg l (iTup X.K tl) := by
  intro pins s σ H R I h
  refine thn (hl pins s σ H _ I h) fun v s1 ⟨x, H1, I1, r1, q1⟩ => ?_
  obtain ⟨a, e, ⟨xs, hq⟩, q⟩ := q1
  subst e
  cases r1
  obtain ⟨its, rv, p, hz⟩ := I1.tuple hq
  refine wpAny_pyIter_tuple (show s1.heap.IsTuple a its.toArray from p) ?_
  refine ⟨s1.heap.objs.size, [s1.heap.objs.size], _, _, H1, rfl, I1.kept (t' := s1.toks) fun b o e => Heap.get?_push_of_some _ e, turn_tuple a _, ⟨_, Heap.get?_push_size _ rfl, rfl, rfl⟩, fun b hb => ?_, q⟩
  have e : b = s1.heap.objs.size := by simpa using hb
  subst e
  exact I1.fpOk (Nat.le_refl _) (I1.hok.fresh (Nat.le_refl _))
/-! ### for -/
/-- W: the invariant by the turn and a measure; N: what the body is to reach -/
def tFor (wi : TI) (g : TG) (tb : TS) : TS := fun D σ H => wi σ H fun J H1 => ∃ W : Nat → Nat → St → Hp → Prop, (∃ m, W 0 m σ H1) ∧ ∀ i m σ H, W i m σ H →
  (J.stop i H ∧ D.nx σ H) ∨ (J.go i H ∧ ∃ N : St → Hp → Prop, (∀ σ' H', N σ' H' → ∃ m', m' < m ∧ W (i + 1) m' σ' H') ∧ ∀ x H', J.yld i H x H' → g x σ H' fun σ2 H2 => tb { D with nx := N, ct := N, bk := D.nx } σ2 H2)
/-- the records at fp as they stand -/
def pinsAt (fp : List Addr) (h : Heap) : List (Addr × Obj) := fp.filterMap fun b => (h.get? b).map fun o => (b, o)
theorem mem_pinsAt {fp : List Addr} {h : Heap} {b : Addr} {o : Obj} (hb : b ∈ fp) (e : h.get? b = some o) : (b, o) ∈ pinsAt fp h := List.mem_filterMap.mpr ⟨b, hb, by rw [e]; rfl⟩
theorem of_pinsAt {fp : List Addr} {h : Heap} {p : Addr × Obj} (hp : p ∈ pinsAt fp h) : p.1 ∈ fp ∧ h.get? p.1 = some p.2 := by
  obtain ⟨b, hb, e⟩ := List.mem_filterMap.mp hp
  cases q : h.get? b with
  | none => rw [q] at e; cases e
  | some o =>
    rw [q] at e
    have e' : (b, o) = p := Option.some.inj e
    subst e'
    exact ⟨hb, q⟩
theorem Inv.pinned {pins : List (Addr × Obj)} {σ : St} {H : Hp} {s : Shared} {fp : List Addr} (I : Inv X pins σ H s) (hf : ∀ b ∈ fp, FpOk X pins H b) (ho : ∀ b ∈ fp, ∃ o, s.heap.get? b = some o ∧ ∀ v, o.data ≠ .cell v) : Inv X (pins ++ pinsAt fp s.heap) σ H s :=
  I.pins_of fun p hp => (List.mem_append.mp hp).elim (fun z => I.pin p (List.mem_append_right _ z)) fun z => by
    obtain ⟨hb, e⟩ := of_pinsAt z
    obtain ⟨f0, f1, f2, _⟩ := hf p.1 hb
    obtain ⟨o, e', d⟩ := ho p.1 hb
    rw [e] at e'; cases e'
    exact ⟨e, f0, f1, f2, d⟩
theorem Inv.unpinned {pins pl : List (Addr × Obj)} {σ : St} {H : Hp} {s : Shared} (I : Inv X (pins ++ pl) σ H s) : Inv X pins σ H s := I.pins_of fun p hp => I.pin p (List.mem_append_right _ (List.mem_append_left _ hp))
theorem ps_for {iter : Expr} {body : List Stmt} {wi : TI} {g : TG} {tb : TS} {pos : Pos} (hp : PassesOwn (model X.prog X.w) X.A X.env X.xe) (hc : X.calm = true) (hi : PI X tg iter wi) (hg : PG X tg g) (hb : PSs X body tb)
    (hs : ∀ x, foldedSetIterable iter X.env x = pure x := by intro _; rfl) : PS X (.For tg iter body [] pos) (tFor wi g tb) := by
  intro pins s σ H D I h
  refine wpAny_For (thn (hi pins s σ H _ I h) fun v s1 h1 => thn h1 fun itv s2 h2 => ?_) hs
  obtain ⟨it, fp, tn, J, H2, e, I2, T, st2, f2, W, ⟨m0, w0⟩, turn⟩ := h2
  subst e
  -- what stays true of the iterator's objects through the loop
  have stat : ∀ {H' : Hp}, (∀ b ∈ fp, H' b = none) → ∀ b ∈ fp, FpOk X pins H' b := fun hn b hb => ⟨hn b hb, (f2 b hb).2⟩
  refine codeAny_forLoop_any (fun n s' => ∃ i σ' H', Inv X pins σ' H' s' ∧ tn i s'.heap ∧ (∀ b ∈ fp, H' b = none) ∧ W i n σ' H') ?_ m0 ⟨0, σ, H2, I2, st2, fun b hb => (f2 b hb).1, w0⟩
  rintro n s3 ⟨i, σ3, H3, I3, st3, fr3, w3⟩
  rcases turn i n σ3 H3 w3 with ⟨stop, qn⟩ | ⟨go, N, hN, step⟩
  · refine wpAny_passesOwn hp (thn (T.done X rfl rfl rfl hc i pins s3 σ3 H3 X.xe I3 (stat fr3) st3 stop) fun r s4 ⟨hr, I4⟩ => ?_)
    subst hr
    exact wpAny_execs_nil ⟨σ3, H3, I4, qn⟩
  · refine wpAny_passesOwn hp (thn (T.item X rfl rfl rfl hc i pins s3 σ3 H3 X.xe I3 (stat fr3) st3 go) fun r s4 ⟨u, hr, h4⟩ => ?_)
    subst hr
    refine wpAny_passesOwn hp (thn h4 fun _ s5 ⟨x, H5, I5, r5, y5, st5, fr5⟩ => ?_)
    have I5' := I5.pinned (stat fr5) (T.obj _ _ st5)
    refine wpAny_passesOwn hp (thn (hg _ s5 σ3 H5 x u _ I5' r5 (step x H5 y5)) fun _ s6 ⟨σ6, H6, I6, q6⟩ => ?_)
    refine wpAny_passesOwn hp (thn (hb _ s6 σ6 H6 _ I6 q6) fun f s7 q7 => ?_)
    have again : ∀ {σ7 : St} {H7 : Hp}, Inv X (pins ++ pinsAt fp s5.heap) σ7 H7 s7 → N σ7 H7 → ∃ m, m < n ∧ ∃ i σ' H', Inv X pins σ' H' s7 ∧ tn i s7.heap ∧ (∀ b ∈ fp, H' b = none) ∧ W i m σ' H' := fun {σ7 H7} I7 n7 => by
      obtain ⟨m', hm, w7⟩ := hN σ7 H7 n7
      refine ⟨m', hm, i + 1, σ7, H7, I7.unpinned, T.keep _ _ _ st5 fun b hb o e => (I7.pin (b, o) (List.mem_append_right _ (List.mem_append_right _ (mem_pinsAt hb e)))).1, fun b hb => ?_, w7⟩
      obtain ⟨o, e, d⟩ := T.obj _ _ st5 b hb
      exact (I7.pin (b, o) (List.mem_append_right _ (List.mem_append_right _ (mem_pinsAt hb e)))).2.1
    cases f with
    | next => obtain ⟨σ7, H7, I7, n7⟩ := q7; exact again I7 n7
    | cont => obtain ⟨σ7, H7, I7, n7⟩ := q7; exact again I7 n7
    | brk => obtain ⟨σ7, H7, I7, q7⟩ := q7; exact ⟨σ7, H7, I7.unpinned, q7⟩
    | ret v => obtain ⟨x7, σ7, H7, I7, r7, q7⟩ := q7; exact ⟨x7, σ7, H7, I7.unpinned, r7, q7⟩
end

/-! ### the forms one uses -/
end L2

namespace L2
open PySem PySem.Spec PyProof.Rows

abbrev R2 := V → V → Hp → VK → Prop
/-- a two-place operation on values: f is binaryOp op, inplaceOp op or compareOp op -/
def OpR (X : Cx) (f : Value → Value → Sem Value) (r : R2) : Prop :=
  ∀ (pins : List (Addr × Obj)) (s : Shared) (σ : St) (H : Hp) (x y : V) (v u : Value) (Q : VK), Inv X pins σ H s → RelV x v → RelV y u → r x y H Q →
    wpAny (model X.prog X.w) X.A (f v u) (EP X pins σ Q) X.xe s
/-- a one-place operation -/
def UnR (X : Cx) (f : Value → Sem Value) (r : V → Hp → VK → Prop) : Prop :=
  ∀ (pins : List (Addr × Obj)) (s : Shared) (σ : St) (H : Hp) (x : V) (v : Value) (Q : VK), Inv X pins σ H s → RelV x v → r x H Q →
    wpAny (model X.prog X.w) X.A (f v) (EP X pins σ Q) X.xe s
/-- a call of a value that is known (a builtin, a type) with values -/
def CallR (X : Cx) (f : Value) (r : List V → Hp → VK → Prop) : Prop :=
  ∀ (pins : List (Addr × Obj)) (s : Shared) (σ : St) (H : Hp) (xs : List V) (us : List Value) (Q : VK), Inv X pins σ H s → Vals xs us → r xs H Q →
    wpAny (model X.prog X.w) X.A (call f us) (EP X pins σ Q) X.xe s
def tOp (r : R2) (ta tb : TE) : TE := fun σ H Q => ta σ H fun x H1 => tb σ H1 fun y H2 => r x y H2 Q
def tUn (r : V → Hp → VK → Prop) (ta : TE) : TE := fun σ H Q => ta σ H fun x H1 => r x H1 Q
/-- ints in, under C, and a value out -/
def rI (C : Int → Int → Prop) (g : Int → Int → V) : R2 := fun x y H Q => ∃ i j, x = .int i ∧ y = .int j ∧ C i j ∧ Q (g i j) H
def rI0 (g : Int → Int → V) : R2 := fun x y H Q => ∃ i j, x = .int i ∧ y = .int j ∧ Q (g i j) H
def rU (g : Int → V) : V → Hp → VK → Prop := fun x H Q => ∃ i, x = .int i ∧ Q (g i) H

section
variable {X : Cx} {a b c : Expr} {ta tb tc : TE} {pos : Pos}

theorem binT (ha : PE X a ta) (hb : PE X b tb) {pins : List (Addr × Obj)} {s : Shared} {σ : St} {H : Hp} {R : V → V → Hp → Prop} (I : Inv X pins σ H s)
    (h : ta σ H fun x H1 => tb σ H1 fun y H2 => R x y H2) {Q : Value → Shared → Prop} {f : Value → Value → Sem Value}
    (hf : ∀ v u s2 x y H2, Inv X pins σ H2 s2 → RelV x v → RelV y u → R x y H2 → wpAny (model X.prog X.w) X.A (f v u) Q X.xe s2) :
    wpAny (model X.prog X.w) X.A (eval a X.env) (fun v s₁ => wpAny (model X.prog X.w) X.A (eval b X.env) (fun u s₂ => wpAny (model X.prog X.w) X.A (f v u) Q X.xe s₂) X.xe s₁) X.xe s := by
  refine thn (ha pins s σ H _ I h) fun v s1 ⟨x, H1, I1, r1, q1⟩ => ?_
  refine thn (hb pins s1 σ H1 _ I1 q1) fun u s2 ⟨y, H2, I2, r2, q2⟩ => ?_
  exact hf v u s2 x y H2 I2 r1 r2 q2

theorem pe_op {op : Operator} {r : R2} (ho : OpR X (binaryOp op) r) (ha : PE X a ta) (hb : PE X b tb) : PE X (.BinOp a op b pos) (tOp r ta tb) := by
  intro pins s σ H Q I h
  exact wpAny_BinOp (binT ha hb I h fun v u s2 x y H2 I2 rx ry q => ho pins s2 σ H2 x y v u Q I2 rx ry q)
theorem pe_un {op : UnaryOp} {r : V → Hp → VK → Prop} (ho : UnR X (unaryOp op) r) (ha : PE X a ta) : PE X (.UnaryOp op a pos) (tUn r ta) := by
  intro pins s σ H Q I h
  exact UnaryOp_ (thn (ha pins s σ H _ I h) fun v s1 ⟨x, H1, I1, r1, q1⟩ => ho pins s1 σ H1 x v Q I1 r1 q1)
/-! ### ints -/
theorem opI {f : Value → Value → Sem Value} {C : Int → Int → Prop} {g : Int → Int → Int}
    (rule : ∀ (i j : Int) (t u : Tok) (s : Shared) (Q : Value → Shared → Prop) (E : Value → Shared → Prop), C i j → Q (.int (g i j) s.toks) { s with toks := s.toks + 1 } → wpAny (model X.prog X.w) X.A (f (.int i t) (.int j u)) Q E s) :
    OpR X f (rI C fun i j => .int (g i j)) := by
  intro pins s σ H x y v u Q I rx ry h
  obtain ⟨i, j, rfl, rfl, hc, q⟩ := h
  obtain ⟨t, rfl⟩ := rx
  obtain ⟨t', rfl⟩ := ry
  exact rule i j t t' s _ _ hc ⟨.int (g i j), H, I.tok _, ⟨_, rfl⟩, q⟩
theorem opI0 {f : Value → Value → Sem Value} {g : Int → Int → Int}
    (rule : ∀ (i j : Int) (t u : Tok) (s : Shared) (Q : Value → Shared → Prop) (E : Value → Shared → Prop), Q (.int (g i j) s.toks) { s with toks := s.toks + 1 } → wpAny (model X.prog X.w) X.A (f (.int i t) (.int j u)) Q E s) :
    OpR X f (rI0 fun i j => .int (g i j)) := by
  intro pins s σ H x y v u Q I rx ry h
  obtain ⟨i, j, rfl, rfl, q⟩ := h
  obtain ⟨t, rfl⟩ := rx
  obtain ⟨t', rfl⟩ := ry
  exact rule i j t t' s _ _ ⟨.int (g i j), H, I.tok _, ⟨_, rfl⟩, q⟩
theorem opB0 {f : Value → Value → Sem Value} {g : Int → Int → Bool}
    (rule : ∀ (i j : Int) (t u : Tok) (s : Shared) (Q : Value → Shared → Prop) (E : Value → Shared → Prop), Q (.bool (g i j)) s → wpAny (model X.prog X.w) X.A (f (.int i t) (.int j u)) Q E s) :
    OpR X f (rI0 fun i j => .bl (g i j)) := by
  intro pins s σ H x y v u Q I rx ry h
  obtain ⟨i, j, rfl, rfl, q⟩ := h
  obtain ⟨t, rfl⟩ := rx
  obtain ⟨t', rfl⟩ := ry
  exact rule i j t t' s _ _ ⟨.bl (g i j), H, I, rfl, q⟩

def CDiv (i j : Int) : Prop := 0 < j ∧ j < 1073741824
def CPow (i j : Int) : Prop := 0 ≤ j ∧ j ≤ 1000000 ∧ i.natAbs < 2 ^ 64
def CMul (i j : Int) : Prop := (-(2 ^ 64) < i ∧ i < 2 ^ 64) ∨ (-(2 ^ 64) < j ∧ j < 2 ^ 64)
theorem CMul.ok {i j : Int} (h : CMul i j) : IntMulOk i j := by
  rcases h with ⟨h1, h2⟩ | ⟨h1, h2⟩
  · exact .of_left (intBits_le_64 h1 h2)
  · exact .of_right (intBits_le_64 h1 h2)
theorem op_add : OpR X (binaryOp .Add) (rI0 fun i j => .int (i + j)) := opI0 fun _ _ _ _ _ _ _ q => add_int q
theorem op_sub : OpR X (binaryOp .Sub) (rI0 fun i j => .int (i - j)) := opI0 fun _ _ _ _ _ _ _ q => sub_int q
/-- % by a positive divisor of any size -/
theorem op_mod : OpR X (binaryOp .Mod) (rI (fun _ j => 0 < j) fun i j => .int (i % j)) := opI fun i j _ _ _ _ _ hc q => by
  have h1 : (0 : Int) < j := hc
  exact mod_int' (by omega) (by rw [Int.fmod_eq_emod_of_nonneg i (by omega)]; exact q)
theorem op_pow : OpR X (binaryOp .Pow) (rI CPow fun i j => .int (i ^ j.toNat)) := opI fun _ _ _ _ _ _ _ hc q => pow_int_small hc.1 hc.2.1 hc.2.2 q
theorem iop_add : OpR X (inplaceOp .Add) (rI0 fun i j => .int (i + j)) := opI0 fun _ _ _ _ _ _ _ q => iadd_int q
theorem unI {f : Value → Sem Value} {g : Int → Int}
    (rule : ∀ (i : Int) (t : Tok) (s : Shared) (Q : Value → Shared → Prop) (E : Value → Shared → Prop), Q (.int (g i) s.toks) { s with toks := s.toks + 1 } → wpAny (model X.prog X.w) X.A (f (.int i t)) Q E s) :
    UnR X f (rU fun i => .int (g i)) := by
  intro pins s σ H x v Q I rx h
  obtain ⟨i, rfl, q⟩ := h
  obtain ⟨t, rfl⟩ := rx
  exact rule i t s _ _ ⟨.int (g i), H, I.tok _, ⟨_, rfl⟩, q⟩
theorem un_neg : UnR X (unaryOp .USub) (rU fun i => .int (-i)) := unI fun _ _ _ _ _ q => neg_int q
/-! ### bools among ints: n += (a < b) -/
end

/-! ### comparisons -/
section
variable {X : Cx} {a b c : Expr} {ta tb tc : TE} {pos : Pos}
theorem op_lt : OpR X (compareOp .Lt) (rI0 fun i j => .bl (decide (i < j))) := opB0 fun _ _ _ _ _ _ _ q => lt_int q
theorem op_gt : OpR X (compareOp .Gt) (rI0 fun i j => .bl (decide (j < i))) := opB0 fun _ _ _ _ _ _ _ q => gt_int q
/-- two rules for one operation: by cases -/
theorem OpR.or {f : Value → Value → Sem Value} {r r' : R2} (h : OpR X f r) (h' : OpR X f r') : OpR X f (fun x y H Q => r x y H Q ∨ r' x y H Q) := by
  intro pins s σ H x y v u Q I rx ry q
  rcases q with q | q
  · exact h pins s σ H x y v u Q I rx ry q
  · exact h' pins s σ H x y v u Q I rx ry q

theorem nomark (b : Expr) {op : CmpOp} (h : op ≠ .In := by decide) (h2 : op ≠ .NotIn := by decide) : behindInMarks op b = false := by
  have e1 : (op == CmpOp.In) = false := by cases op <;> first | rfl | exact absurd rfl h
  have e2 : (op == CmpOp.NotIn) = false := by cases op <;> first | rfl | exact absurd rfl h2
  cases b <;> simp [behindInMarks, e1, e2]
/-- a comparison as a value; hm: nomark b, or (for in, not in) by with_unfolding_all rfl -/
theorem pe_cmpR {op : CmpOp} {r : R2} (ho : OpR X (compareOp op) r) (ha : PE X a ta) (hb : PE X b tb) (hm : behindInMarks op b = false) : PE X (.Compare a [op] [b] pos) (tOp r ta tb) := by
  intro pins s σ H Q I h
  exact wpAny_Compare1 (binT ha hb I h fun v u s2 x y H2 I2 rx ry q => ho pins s2 σ H2 x y v u Q I2 rx ry q) hm
/-- a reading of a value as a test -/
def tTest (t : TE) : TT := fun σ H Q => t σ H fun x H' => ∃ k, x = .bl k ∧ Q k H'
theorem pt_cmpR {op : CmpOp} {r : R2} (ho : OpR X (compareOp op) r) (ha : PE X a ta) (hb : PE X b tb) (hm : behindInMarks op b = false) : PT X (.Compare a [op] [b] pos) (tTest (tOp r ta tb)) := by
  intro pins s σ H Q I h
  refine wpAny_isTrue_Compare1 (thn (ha pins s σ H _ I h) fun v s1 ⟨x, H1, I1, r1, q1⟩ => thn (hb pins s1 σ H1 _ I1 q1) fun u s2 ⟨y, H2, I2, r2, q2⟩ =>
    thn (ho pins s2 σ H2 x y v u _ I2 r1 r2 q2) fun c s3 ⟨z, H3, I3, r3, k, e, q3⟩ => ?_) hm
  subst e
  cases r3
  exact wpAny_truthy_bool ⟨H3, I3, q3⟩
/-! ### truth -/
theorem line63 : (sizeLine : Nat) < 2 ^ 63 := by rw [sizeLine_eq]; decide
/-! ### strs and bytes -/
theorem op_add_str : OpR X (binaryOp .Add) (fun x y H Q => ∃ i j, x = .str i ∧ y = .str j ∧ i.length + j.length ≤ sizeLine ∧ Q (.str (i ++ j)) H) := by
  intro pins s σ H x y v u Q I rx ry h
  obtain ⟨i, j, rfl, rfl, hz, q⟩ := h
  obtain ⟨t, rfl⟩ := rx
  obtain ⟨t', rfl⟩ := ry
  exact add_str (fun t' tk => ⟨.str (i ++ j), H, I.tok _, ⟨_, rfl⟩, q⟩) hz
theorem iop_add_str : OpR X (inplaceOp .Add) (fun x y H Q => ∃ i j, x = .str i ∧ y = .str j ∧ i.length + j.length ≤ sizeLine ∧ Q (.str (i ++ j)) H) := by
  intro pins s σ H x y v u Q I rx ry h
  obtain ⟨i, j, rfl, rfl, hz, q⟩ := h
  obtain ⟨t, rfl⟩ := rx
  obtain ⟨t', rfl⟩ := ry
  exact iadd_str (fun t' tk => ⟨.str (i ++ j), H, I.tok _, ⟨_, rfl⟩, q⟩) hz
/-! ### scalar builtins, by CallR -/
theorem vals1 {x : V} {us : List Value} (r : Vals [x] us) : ∃ u, us = [u] ∧ RelV x u := by
  cases r with
  | cons r1 r2 => cases r2; exact ⟨_, rfl, r1⟩
theorem vals2 {x y : V} {us : List Value} (r : Vals [x, y] us) : ∃ u w', us = [u, w'] ∧ RelV x u ∧ RelV y w' := by
  cases r with
  | cons r1 r2 =>
    cases r2 with
    | cons r3 r4 => cases r4; exact ⟨_, _, rfl, r1, r3⟩
end
end L2

namespace L2
open PySem PySem.Spec PyProof.Rows

/-! ### an instance, its attributes a map -/
structure ObjM (h : Heap) (x dx C : Addr) (mA : Str → Option Value) : Prop where
  obj : h.get? x = some (PySem.W.instObj C dx)
  ns : h.Ns1 dx mA
  ne : dx ≠ x

theorem lookIn_ns {h : Heap} {dx : Addr} {mA : Str → Option Value} (n : h.Ns1 dx mA) : ∃ od, h.get? dx = some od ∧ ∀ name, PySem.W.lookIn name od = some (mA name) := by
  obtain ⟨o, es, ep, ho, hd, hk, _, hm⟩ := n
  refine ⟨o, ho, fun name => ?_⟩
  have e := hm name
  unfold nsFind findBy at e
  rw [← Array.find?_toList] at e
  unfold PySem.W.lookIn
  rw [hd]
  dsimp only
  split
  · rename_i y q
    rw [q] at e
    exact congrArg some e
  · rename_i q
    rw [q] at e
    have a : es.toList.any (·.refKey) = false := by
      rw [List.any_eq_false]
      intro y hy
      obtain ⟨z, t, hkey⟩ := hk y (Array.mem_toList_iff.mp hy)
      simp [DictEntry.refKey, hkey]
    have a' : ¬ es.toList.any (·.refKey) = true := by rw [a]; exact Bool.false_ne_true
    rw [if_neg a']
    exact congrArg some e

theorem ObjM.look {h : Heap} {x dx C : Addr} {mA : Str → Option Value} (I : ObjM h x dx C mA) : ∃ od, PySem.W.InstAt h x (PySem.W.instObj C dx) C (some od) ∧ ∀ name, PySem.W.lookIn name od = some (mA name) :=
  let ⟨od, ho, hl⟩ := lookIn_ns I.ns
  ⟨od, ⟨I.obj, rfl, rfl, ho⟩, hl⟩

section
variable {prog : Program} {w : World} {A : Around} {E : Value → Shared → Prop} {s : Shared} {K : PySem.W.Frag} {x dx C f : Addr} {mA : Str → Option Value} {name : Str} {v : Value}

end

/-! ### the attributes as a list of pairs -/
def putF (f : Str) (v : V) : List (Str × V) → List (Str × V)
  | [] => [(f, v)]
  | (g, x) :: r => if g = f then (g, v) :: r else (g, x) :: putF f v r
theorem RelO.some_of {v : V} {o : Option Value} (r : RelO (some v) o) : ∃ u, o = some u ∧ RelV v u := by
  cases o with
  | none => exact (show False from r).elim
  | some u => exact ⟨u, rfl, r⟩
theorem RelO.none_of {o : Option Value} (r : RelO none o) : o = none := by
  cases o with
  | none => rfl
  | some u => exact (show False from r).elim
section
variable {P : Program} {w : World} {H H' : Hp} {h h' : Heap} {a C dx : Addr} {fs fs' : List (Str × V)}
theorem ins_get (hok : HOk P w H h) (e : H a = some (.ins C dx fs)) : ∃ mA, ObjM h a dx C mA ∧ (∀ f, RelO (fs.lookup f) (mA f)) ∧ PySem.Within mA (fs.map (·.1)) ∧ fs.length ≤ 1000 ∧ H dx = some (.own a) := by
  obtain ⟨d, z, ne, ob, mA, n, r, q⟩ := (show ObjOk P w H h a (.ins C dx fs) from hok a _ e)
  exact ⟨mA, ⟨ob, n, ne⟩, r, q, z, d⟩
end

/-! ### what of the text a class must have -/
structure Cls (K : PySem.W.Frag) (C : Addr) : Prop where
  pg : PySem.W.plainGet K C Str.empty = true
  hd : PySem.W.hasDictIn K C = true
  po : PySem.W.plainOver K C = true
  sa : PySem.W.findIn K (.ref C) "__setattr__" = some (some (.builtin "object.__setattr__"))
theorem Cls.get {K : PySem.W.Frag} {C : Addr} (c : Cls K C) (f : Str) : PySem.W.plainGet K C f = true := c.pg
/-- no class of it has the name -/
def NoAttr (K : PySem.W.Frag) (C : Addr) (f : Str) : Prop := PySem.W.findIn K (.ref C) f = some none
/-- a constant of the class -/
structure Con (K : PySem.W.Frag) (C : Addr) (f : Str) (v : V) (u : Value) : Prop where
  at_ : PySem.W.findIn K (.ref C) f = some (some u)
  rel : RelV v u
  get : PySem.W.specialIn K u "__get__" = some none
  cp : PySem.W.copiedNames.contains f = false
/-- a method: a plain def of the class or of one above it -/
structure Meth (K : PySem.W.Frag) (C : Addr) (m : Str) (f : Addr) : Prop where
  at_ : PySem.W.findIn K (.ref C) m = some (some (.ref f))
  fn : PySem.W.isFn K (.ref f) = true
  kp : PySem.W.keepIn K (.ref f) = true

section
variable {X : Cx} {pins : List (Addr × Obj)} {σ : St} {H : Hp} {s : Shared} {a C dx : Addr} {fs : List (Str × V)} {f : Str} {v : V} {A : Around} {E : Value → Shared → Prop}

/-- a new instance, tracked, without attributes -/
theorem Inv.made (I : Inv X pins σ H s) : Inv X pins σ (upd (upd H s.heap.objs.size (.own (s.heap.objs.size + 1))) (s.heap.objs.size + 1) (.ins C s.heap.objs.size []))
    { s with heap := (s.heap.push PySem.W.emptyDict).push (PySem.W.instObj C s.heap.objs.size) } := by
  have e1 : (s.heap.push PySem.W.emptyDict).get? s.heap.objs.size = some PySem.W.emptyDict := Heap.get?_push_size s.heap rfl
  have e2 : ((s.heap.push PySem.W.emptyDict).push (PySem.W.instObj C s.heap.objs.size)).get? (s.heap.objs.size + 1) = some (PySem.W.instObj C s.heap.objs.size) := by
    have := Heap.get?_push_size (s.heap.push PySem.W.emptyDict) (o := PySem.W.instObj C s.heap.objs.size) rfl
    rwa [Heap.size_push] at this
  have e3 : (s.heap.push PySem.W.emptyDict).Ns s.heap.objs.size (fun _ => none) := ⟨PySem.W.emptyDict, #[], _, e1, rfl, (fun e he => absurd he (by simp)), fun _ => rfl⟩
  have I1 := I.laid (a := s.heap.objs.size) (o := .own (s.heap.objs.size + 1)) (h' := s.heap.push PySem.W.emptyDict) (t' := s.toks) (fun b u q => Heap.get?_push_of_some _ q) (Nat.le_refl _) ⟨_, e1⟩
  refine I1.laid (a := s.heap.objs.size + 1) (o := .ins C s.heap.objs.size []) (t' := s.toks) (fun b u q => Heap.get?_push_of_some _ q) (Nat.le_of_eq (Heap.size_push _ _)) ?_
  have ne : s.heap.objs.size ≠ s.heap.objs.size + 1 := Nat.ne_of_lt (Nat.lt_succ_self _)
  refine ⟨by rw [upd_ne ne, upd_same], Nat.zero_le _, ne, e2, fun _ => none, (Heap.Ns1.of_empty e3).at fun o q => Heap.get?_push_of_some _ q, fun _ => True.intro, fun y hy => absurd rfl hy⟩

end

/-! ### readings and rules -/
section
variable {X : Cx} {o e value : Expr} {f : Str} {pos pos' tpos : Pos} {ta tv : TE}
end

/-! ### isinstance -/
section
variable {X : Cx} {pins : List (Addr × Obj)} {σ : St} {H : Hp} {s : Shared} {A : Around} {E : Value → Shared → Prop} {Q : Value → Shared → Prop} {c : Value} {b : Bool}
/-- the type of a value, as the fragment's deciders take it; for an instance its class -/
inductive TyOf (K : PySem.W.Frag) (H : Hp) : V → Value → Prop where
  | non : TyOf K H .non (.type "NoneType")
  | bl (x : Bool) : TyOf K H (.bl x) (.type "bool")
  | int (i : Int) : TyOf K H (.int i) (.type "int")
  | str (x : Str) : TyOf K H (.str x) (.type "str")
  | flt (x : UInt64) : TyOf K H (.flt x) (.type "float")
  | lst {a : Addr} {xs : List V} (e : H a = some (.lst xs)) : TyOf K H (.ref a) (.type "list")
  | frz {a : Addr} {o : Obj} {xs : List V} (e : H a = some (.frz o (.lst xs))) : TyOf K H (.ref a) (.type "list")
  | tup {a : Addr} {xs : List V} (e : H a = some (.tup xs)) : TyOf K H (.ref a) (.type "tuple")
  | dK {a : Addr} {kvs : List (Key × V)} (e : H a = some (.dK kvs)) : TyOf K H (.ref a) (.type "dict")
  | dT {a : Addr} {kvs : List (List Key × V)} (e : H a = some (.dT kvs)) : TyOf K H (.ref a) (.type "dict")
  | ins {a C dx : Addr} {fs : List (Str × V)} (e : H a = some (.ins C dx fs)) (cl : Cls K C) (ha : PySem.W.findIn K (.ref C) "__class__" = some (some (.builtin "object.__class__")))
      (hn : PySem.W.specialIn K (.builtin "object.__class__") "__get__" = some (some (.builtin "getset_descriptor.__get__"))) (htk : PySem.W.takesIn K (.builtin "object.__class__") = some true)
      (hm : PySem.W.mroIn K C (.type "object") = some true) : TyOf K H (.ref a) (.ref C)
/-- isinstance(x, c) for one class c, a built-in or an own one: kitOne's answer -/
theorem isinst_ok {x : V} {u t : Value} (I : Inv X pins σ H s) (rx : RelV x u) (ty : TyOf X.K H x t) (e : PySem.W.kitOne X.K t c = some b) (h : ∀ tk, Q (.bool b) { s with toks := tk }) :
    wpAny (model X.prog X.w) A (call (.builtin "isinstance") [u, c]) Q E s := by
  cases ty with
  | non => cases (show u = Value.none from rx); exact PySem.W.kia_one PySem.W.kitx_none I.kIn True.intro e (fun z => nomatch z) h
  | bl y => cases (show u = Value.bool y from rx); exact PySem.W.kia_one PySem.W.kitx_bool I.kIn True.intro e (fun z => nomatch z) h
  | int i => obtain ⟨t, q⟩ := (show ∃ t, u = Value.int i t from rx); cases q; exact PySem.W.kia_one PySem.W.kitx_int I.kIn True.intro e (fun z => nomatch z) h
  | str y => obtain ⟨t, q⟩ := (show ∃ t, u = Value.str y t from rx); cases q; exact PySem.W.kia_one PySem.W.kitx_str I.kIn True.intro e (fun z => nomatch z) h
  | flt y => obtain ⟨t, q⟩ := (show ∃ t, u = Value.float y t from rx); cases q; exact PySem.W.kia_one PySem.W.kitx_float I.kIn True.intro e (fun z => nomatch z) h
  | @lst a xs ea =>
    cases (show u = Value.ref a from rx)
    obtain ⟨_, _, n, _, h1⟩ := (show ObjOk X.prog X.w H s.heap a (.lst xs) from I.hok a _ ea)
    exact PySem.W.kia_one PySem.W.kitx_list I.kIn ⟨_, h1, rfl⟩ e (fun z => nomatch z) h
  | @frz a ob xs ea =>
    cases (show u = Value.ref a from rx)
    obtain ⟨_, _, _, n, _, h1⟩ := (show ObjOk X.prog X.w H s.heap a (.frz ob (.lst xs)) from I.hok a _ ea)
    exact PySem.W.kia_one PySem.W.kitx_list I.kIn ⟨_, h1, rfl⟩ e (fun z => nomatch z) h
  | @tup a xs ea =>
    cases (show u = Value.ref a from rx)
    obtain ⟨_, _, _, p⟩ := (show ObjOk X.prog X.w H s.heap a (.tup xs) from I.hok a _ ea)
    obtain ⟨o, h1, h2, _⟩ := p
    exact PySem.W.kia_one PySem.W.kitx_tuple I.kIn ⟨o, h1, h2⟩ e (fun z => nomatch z) h
  | @dK a kvs ea =>
    cases (show u = Value.ref a from rx)
    obtain ⟨_, _, vs, _, p⟩ := (show ObjOk X.prog X.w H s.heap a (.dK kvs) from I.hok a _ ea)
    obtain ⟨o, es, ep, h1, h2, _⟩ := p
    exact PySem.W.kia_one PySem.W.kitx_dict I.kIn ⟨o, h1, h2.1⟩ e (fun z => nomatch z) h
  | @dT a kvs ea =>
    cases (show u = Value.ref a from rx)
    obtain ⟨_, _, xs, _, o, es, ep, h1, h2, _⟩ := (show ObjOk X.prog X.w H s.heap a (.dT kvs) from I.hok a _ ea)
    exact PySem.W.kia_one PySem.W.kitx_dict I.kIn ⟨o, h1, h2.1⟩ e (fun z => nomatch z) h
  | @ins a C dx fs ea cl ha hn htk hm =>
    cases (show u = Value.ref a from rx)
    obtain ⟨mA, O, _⟩ := ins_get I.hok ea
    obtain ⟨od, J, _⟩ := O.look
    exact PySem.W.kia_one (PySem.W.kitx_own (cl.get _) cl.hd ha hn htk hm) I.kIn J e (fun z => nomatch z) h
end
end L2

namespace L2
open PySem PySem.Spec PyProof.Rows

/-! ### room -/
structure Room (k : Nat) (A : Around) : Prop where
  hd : A.handled = none
  dp : A.depth + 3 * k + 5 < recursionLimit
  un : A.units + 16 * k + 200 < cLine
theorem Room.mono {j k : Nat} {A : Around} (r : Room k A) (h : j ≤ k) : Room j A := ⟨r.hd, by have := r.dp; omega, by have := r.un; omega⟩
theorem Room.deeper {k : Nat} {A : Around} (r : Room (k + 1) A) (env : Env) : Room k (A.deeper env) :=
  ⟨r.hd, by have := r.dp; show A.depth + 1 + 3 * k + 5 < _; omega, by have := r.un; show A.units + 3 + 16 * k + 200 < _; omega⟩
theorem Room.in1 {k : Nat} {A : Around} (r : Room (k + 1) A) : Room k A.in1 :=
  ⟨r.hd, by have := r.dp; show A.depth + 3 * k + 5 < _; omega, by have := r.un; show A.units + 1 + 16 * k + 200 < _; omega⟩
theorem make_depth {A : Around} {C : Addr} {us : List Value} {kw : List (Str × Value)} : (A.under (.builtin "type.__call__" ⟨.ref C :: us, kw⟩)).depth = A.depth + 1 := by
  first | rfl | simp [Around.under, Code.weight, Code.isCreation, Code.isGuard, Code.isCaller, Code.frames, Code.isFrame, guardIds]
theorem make_units {A : Around} {C : Addr} {us : List Value} {kw : List (Str × Value)} : (A.under (.builtin "type.__call__" ⟨.ref C :: us, kw⟩)).units = A.units + 1 := by
  first | rfl | simp [Around.under, Code.cUnits, Code.frames, Code.isFrame]
theorem Room.make {k : Nat} {A : Around} (r : Room (k + 1) A) (C : Addr) (us : List Value) (kw : List (Str × Value)) : Room k (A.under (.builtin "type.__call__" ⟨.ref C :: us, kw⟩)) :=
  ⟨r.hd, by have := r.dp; rw [make_depth]; omega, by have := r.un; rw [make_units]; omega⟩
theorem Room.depth {k : Nat} {A : Around} (r : Room k A) : A.depth < recursionLimit := by have := r.dp; omega
theorem Room.units {k : Nat} {A : Around} (r : Room k A) : A.units + 64 < cLine := by have := r.un; omega
theorem Room.units0 {k : Nat} {A : Around} (r : Room k A) : A.units < cLine := by have := r.un; omega

/-! ### argument lists and displays -/
def tNil : TA := fun _ H Q => Q [] H
def tCons (ta : TE) (tr : TA) : TA := fun σ H Q => ta σ H fun x H1 => tr σ H1 fun xs H2 => Q (x :: xs) H2
section
variable {X : Cx} {e : Expr} {es : List Expr} {te : TE} {t : TA} {pos : Pos}
theorem pa_nil : PA X [] tNil := fun _ _ _ _ H Q I h => Calls.spliced_nil ⟨[], H, I, .nil, h⟩
theorem pa_cons (ha : PE X e te) (hr : PA X es t) (hs : starEach (e :: es) X.env = (false, eval e X.env) :: starEach es X.env := by rfl) : PA X (e :: es) (tCons te t) := by
  intro pos pins s σ H Q I h
  rw [hs]
  show wpAny _ _ (spliced ((false, eval e X.env) :: backTo pos (starEach es X.env))) _ _ s
  refine Calls.spliced_cons (thn (ha pins s σ H _ I h) fun u s1 ⟨x, H1, I1, r1, q1⟩ => ?_)
  exact thn (hr pos pins s1 σ H1 _ I1 q1) fun us s2 ⟨xs, H2, I2, r2, q2⟩ => ⟨x :: xs, H2, I2, .cons r1 r2, q2⟩

/-- a tuple, a list of written items -/
def tTup (t : TA) : TE := fun σ H Q => t σ H fun xs H1 => xs.length ≤ sizeLine ∧ ∀ p, H1 p = none → Q (.ref p) (upd H1 p (.tup xs))
def tLst (t : TA) : TE := fun σ H Q => t σ H fun xs H1 => xs.length ≤ sizeLine ∧ ∀ p, H1 p = none → Q (.ref p) (upd H1 p (.lst xs))
theorem pe_tup {x1} (h : PA X es t) : PE X (.Tuple es x1 pos) (tTup t) := by
  intro pins s σ H Q I hq
  refine wpAny_Tuple_spliced (thn (h pos pins s σ H _ I hq) fun us s1 ⟨xs, H1, I1, r, z, q⟩ => ⟨by rw [← r.length]; exact z, ?_⟩)
  have hf : H1 s1.heap.objs.size = none := I1.hok.fresh (Nat.le_refl _)
  refine ⟨.ref s1.heap.objs.size, upd H1 s1.heap.objs.size (.tup xs), I1.laid (t' := s1.toks) (fun b u e => Heap.get?_push_of_some _ e) (Nat.le_refl _) ?_, rfl, q _ hf⟩
  exact ⟨z, us, r, ⟨_, Heap.get?_push_size _ rfl, rfl, _, rfl⟩⟩
theorem pe_lst (h : PA X es t) : PE X (.List es pos) (tLst t) := by
  intro pins s σ H Q I hq
  refine wpAny_List_spliced (thn (h pos pins s σ H _ I hq) fun us s1 ⟨xs, H1, I1, r, z, q⟩ => ⟨by rw [← r.length]; exact z, ?_⟩)
  have hf : H1 s1.heap.objs.size = none := I1.hok.fresh (Nat.le_refl _)
  refine ⟨.ref s1.heap.objs.size, upd H1 s1.heap.objs.size (.lst xs), I1.laid (t' := s1.toks) (fun b u e => Heap.get?_push_of_some _ e) (Nat.le_refl _) ?_, rfl, q _ hf⟩
  exact ⟨z, us, 0, r, Heap.get?_push_size _ rfl⟩
end

/-! ### what a def promises -/
/-- a def's promise: the bound arguments in the parameters' order, the heap, the wanted end, the wanted exception -/
abbrev Sp := List V → Hp → VK → XK → Prop
/-- how an exception lies behind a call (file 08 gives it): the callers' frames, abstract heap and state ahead of the call, the wish, the exception, the state -/
abbrev CXT := List Env → Hp → Shared → XK → Value → Shared → Prop

/-- the state at a call -/
structure Env0 (P : Program) (w : World) (K : PySem.W.Frag) (mg : Str → Option Value) (base : Heap) (A : Around) (outer : List Env) (s : Shared) (H : Hp) : Prop where
  frames : A.frames = some outer
  mod : Mod K mg base
  bs : ∀ b o, base.get? b = some o → s.heap.get? b = some o ∧ H b = none
  bsz : base.objs.size ≤ s.heap.objs.size
  funs : s.heap.FunFrames base outer
  frf : ∀ b ∈ frs outer, H b = none
  hok : HOk P w H s.heap
  bare : AllBare s.gens
/-- a call's end -/
def CE (outer : List Env) (P : Program) (w : World) (H : Hp) (s : Shared) (Q : VK) (u : Value) (s' : Shared) : Prop :=
  ∃ v H', s'.os = s.os ∧ AllBare s'.gens ∧ Un (frs outer) [] H H' s.heap s'.heap ∧ HOk P w H' s'.heap ∧ RelV v u ∧ Q v H'
def CR (CX : CXT) (outer : List Env) (P : Program) (w : World) (H : Hp) (s : Shared) (Q : VK) (E : XK) (r : Result) (s' : Shared) : Prop :=
  match r with
  | .ok (.ret u) => CE outer P w H s Q u s'
  | .ok _ => False
  | .error e => CX outer H s E e s'
structure FnOk (P : Program) (w : World) (K : PySem.W.Frag) (mg : Str → Option Value) (base : Heap) (CX : CXT) (k : Nat) (f : Addr) (fd : FuncData) (ps : List Str) (sp : Sp) : Prop where
  len : ∀ vs H Q E, sp vs H Q E → vs.length = ps.length
  run : ∀ (A : Around) (outer : List Env) (s : Shared) (H : Hp) (args : Args) (us : List Value) (vs : List V) (Q : VK) (E : XK), Room k A → Env0 P w K mg base A outer s H → BindsTo s fd args (ps.zip us) → Vals vs us → sp vs H Q E →
    codeAny (model P w) A (.call (.ref f) args) (CR CX outer P w H s Q E) s
theorem FnOk.mono {P : Program} {w : World} {K : PySem.W.Frag} {mg : Str → Option Value} {base : Heap} {CX : CXT} {j k : Nat} {f : Addr} {fd : FuncData} {ps : List Str} {sp : Sp} (F : FnOk P w K mg base CX j f fd ps sp) (h : j ≤ k) :
    FnOk P w K mg base CX k f fd ps sp := ⟨F.len, fun A outer s H args us vs Q E hr => F.run A outer s H args us vs Q E (hr.mono h)⟩
/-- a weaker promise -/
theorem FnOk.imp {P : Program} {w : World} {K : PySem.W.Frag} {mg : Str → Option Value} {base : Heap} {CX : CXT} {k : Nat} {f : Addr} {fd : FuncData} {ps : List Str} {sp sp' : Sp} (F : FnOk P w K mg base CX k f fd ps sp)
    (h : ∀ vs H Q E, sp' vs H Q E → sp vs H Q E) : FnOk P w K mg base CX k f fd ps sp' :=
  ⟨fun vs H Q E q => F.len vs H Q E (h _ _ _ _ q), fun A outer s H args us vs Q E hr he hb hv hs => F.run A outer s H args us vs Q E hr he hb hv (h _ _ _ _ hs)⟩

theorem Env0.make {P : Program} {w : World} {K : PySem.W.Frag} {mg : Str → Option Value} {base : Heap} {A : Around} {outer : List Env} {s : Shared} {H : Hp} (e : Env0 P w K mg base A outer s H) (C : Addr) (us : List Value) (kw : List (Str × Value)) :
    Env0 P w K mg base (A.under (.builtin "type.__call__" ⟨.ref C :: us, kw⟩)) outer s H := ⟨by first | exact e.frames | (simpa [Around.under, Code.envs, Code.isFrame, pushEnvs] using e.frames), e.mod, e.bs, e.bsz, e.funs, e.frf, e.hok, e.bare⟩
theorem Env0.in1 {P : Program} {w : World} {K : PySem.W.Frag} {mg : Str → Option Value} {base : Heap} {A : Around} {outer : List Env} {s : Shared} {H : Hp} (e : Env0 P w K mg base A outer s H) :
    Env0 P w K mg base A.in1 outer s H := ⟨e.frames, e.mod, e.bs, e.bsz, e.funs, e.frf, e.hok, e.bare⟩

section
variable {X : Cx} {pins : List (Addr × Obj)} {σ : St} {H : Hp} {s s' : Shared}
/-- from a body: what a callee wants -/
theorem Inv.env0 (I : Inv X pins σ H s) : Env0 X.prog X.w X.K X.mg X.base X.A X.stack s H :=
  ⟨I.ok.frames, I.ok.mod, I.bs, Nat.le_trans I.ok.bsz I.sz, I.stack, I.stkFree, I.hok, I.bare⟩
/-- behind a call -/
theorem Inv.after {Q : VK} {u : Value} (I : Inv X pins σ H s) (h : CE X.stack X.prog X.w H s Q u s') : EP X pins σ Q u s' := by
  obtain ⟨v, H', os, bare, un, hok, r, q⟩ := h
  obtain ⟨hh, g, d, t, os'⟩ := s'
  obtain rfl : os' = s.os := os
  exact ⟨v, H', I.call (h' := hh) (g' := g) (d' := d) (t' := t) (ch := []) un hok bare (fun b z => absurd z (by simp)), r, q⟩
end

/-! ### calls -/
/-- f(..): the written arguments, then the defaults dvs; E: what is wanted of an exception -/
def tCall (sp : Sp) (dvs : List V) (E : XK) (t : TA) : TE := fun σ H Q => t σ H fun vs H1 => sp (vs ++ dvs) H1 Q E
/-- how the parameters are bound: us the positional arguments, kw the keywords' values by name, ds the defaults that fill up -/
def Binds (K : PySem.W.Frag) (fd : FuncData) (ps : List Str) (ds : List Value) : Prop :=
  ∀ (s : Shared) (us : List Value), K.In s.heap → (us ++ ds).length = ps.length → BindsTo s fd ⟨us, []⟩ (ps.zip (us ++ ds))
/-- every parameter is given -/
theorem Binds.all {K : PySem.W.Frag} {fd : FuncData} {ps : List Str} (h : ∀ us : List Value, us.length = ps.length → bindArgs fd ⟨us, []⟩ = pure (ps.zip us)) : Binds K fd ps [] := fun s us _ hl => by
  rw [List.append_nil] at hl ⊢
  exact .of_eq (h us hl)

/-- an exception of a callee reaches what this body wants of exceptions -/
def Passes (CX : CXT) (X : Cx) (E : XK) : Prop := ∀ (pins : List (Addr × Obj)) (σ : St) (H : Hp) (s : Shared) (e : Value) (s' : Shared), Inv X pins σ H s → CX X.stack H s E e s' → X.xe e s'

section
variable {X : Cx} {CX : CXT} {k : Nat} {f C : Addr} {fd : FuncData} {ps : List Str} {sp : Sp} {dvs : List V} {ds : List Value} {E : XK} {x m : Str} {p pos apos : Pos} {e o : Expr} {es : List Expr} {ta : TE} {t : TA}

/-- the callee runs -/
theorem run_fn {pins : List (Addr × Obj)} {σ : St} {H : Hp} {s : Shared} {Q : VK} {us : List Value} {vs : List V} (F : FnOk X.prog X.w X.K X.mg X.base CX k f fd ps sp) (hr : Room k X.A) (hb : Binds X.K fd ps ds) (hd : Vals dvs ds) (hx : Passes CX X E)
    (I : Inv X pins σ H s) (r : Vals vs us) (h : sp (vs ++ dvs) H Q E) : wpAny (model X.prog X.w) X.A (call (.ref f) us) (EP X pins σ Q) X.xe s := by
  have r2 : Vals (vs ++ dvs) (us ++ ds) := r.append hd
  have hl : (us ++ ds).length = ps.length := by rw [← r2.length]; exact F.len _ _ _ _ h
  refine wpAny_call (codeAny_mono (F.run X.A X.stack s H ⟨us, []⟩ (us ++ ds) (vs ++ dvs) Q E hr I.env0 (hb s us I.kIn hl) r2 h) fun r s' hq => ?_)
  cases r with
  | error e => exact hx pins σ H s e s' I hq
  | ok fl =>
    cases fl with
    | ret u => exact I.after hq
    | next => exact False.elim hq
    | brk => exact False.elim hq
    | cont => exact False.elim hq

theorem pe_call (F : FnOk X.prog X.w X.K X.mg X.base CX k f fd ps sp) (hr : Room k X.A) (hg : Gl X x) (hm : X.mg x = some (.ref f)) (hk : PySem.W.keepIn X.K (.ref f) = true) (hb : Binds X.K fd ps ds) (hd : Vals dvs ds) (hx : Passes CX X E)
    (ha : PA X (e :: es) t) (hdb : (x == ("__debug__" : Str)) = false := by decide) (he : starEach (e :: es) X.env = (false, eval e X.env) :: starEach es X.env := by rfl) (hpl : (backTo pos (starEach es X.env)).any (·.1) = false := by rfl) :
    PE X (.Call (.Name x p) (e :: es) [] pos) (tCall sp dvs E t) := by
  intro pins s σ H Q I h
  refine wpAny_Call_Name_kw (ld_glob I hg hm ?_ hdb)
  refine PySem.W.callWith_K (h₀ := X.base) I.ok.mod.kin hk (thn (ha pos pins s σ H _ I h) fun us s1 ⟨vs, H1, I1, r, q⟩ => ⟨I1.kIn, ?_⟩) he hpl
  exact run_fn F hr hb hd hx I1 r q
/-- what a class must have to be made -/
structure Mk (K : PySem.W.Frag) (C f : Addr) : Prop where
  makes : PySem.W.makesIn K C = true
  init : PySem.W.findIn K (.ref C) "__init__" = some (some (.ref f))
  fn : PySem.W.isFn K (.ref f) = true
  kp : PySem.W.keepIn K (.ref C) = true

end

/-! ### keywords -/
section
variable {X : Cx} {CX : CXT} {k : Nat} {f C : Addr} {fd : FuncData} {ps ks : List Str} {sp : Sp} {E : XK} {x m : Str} {p pos apos kpos : Pos} {e o : Expr} {es : List Expr} {kws : List Keyword} {te ta : TE} {t tk : TA} {nm : Option Str}
/-- how a call with keywords binds: g puts the positional values us and the keywords' values ws (names ks) in the parameters' order, defaults among them -/
structure KBinds (K : PySem.W.Frag) (fd : FuncData) (ps ks : List Str) (g : List Value → List Value → List Value) (gV : List V → List V → List V) : Prop where
  to : ∀ (s : Shared) (us ws : List Value), K.In s.heap → (g us ws).length = ps.length → BindsTo s fd ⟨us, ks.zip ws⟩ (ps.zip (g us ws))
  rel : ∀ {vs : List V} {us : List Value} {zs : List V} {ws : List Value}, Vals vs us → Vals zs ws → Vals (gV vs zs) (g us ws)
variable {g : List Value → List Value → List Value} {gV : List V → List V → List V}
end

/-! ### a def's body keeps its promise -/
/-- names: the parameters first -/
structure FnScope (N P : List Str) (sc : Scope) : Prop where
  kind : sc.kind = .function
  co : sc.isCoroutine = false
  gen : sc.isGenerator = false
  nd : N.Nodup
  pre : N.take P.length = P
  par : ∀ x ∈ P, sc.names.lookup x = some .local ∨ sc.names.lookup x = some .cell
  nofree : ∀ y ∈ sc.names, y.2 ≠ .free

theorem bindL_out {kindOf : Str → Option NameKind} {x : Str} : ∀ {binds : List (Str × Value)} {m : Str → Option Value}, (∀ v, (x, v) ∉ binds) → bindL kindOf binds m x = m x
  | [], _, _ => rfl
  | (n, v) :: r, m, h => by
    unfold bindL
    rw [bindL_out fun w hw => h w (List.mem_cons_of_mem _ hw)]
    split
    · have : x ≠ n := by rintro rfl; exact h v List.mem_cons_self
      simp [this]
    · rfl
theorem bindC_out {kindOf : Str → Option NameKind} {x : Str} : ∀ {binds : List (Str × Value)} {m : Str → Option Value}, (∀ v, (x, v) ∉ binds) → bindC kindOf binds m x = m x
  | [], _, _ => rfl
  | (n, v) :: r, m, h => by
    unfold bindC
    rw [bindC_out fun w hw => h w (List.mem_cons_of_mem _ hw)]
    split
    · rfl
    · have : x ≠ n := by rintro rfl; exact h v List.mem_cons_self
      simp [this]
theorem bindL_get {kindOf : Str → Option NameKind} {x : Str} {v : Value} : ∀ {P : List Str} {vs : List Value} {i : Nat} {m : Str → Option Value}, P.Nodup → P[i]? = some x → vs[i]? = some v → kindOf x = some .local →
    bindL kindOf (P.zip vs) m x = some v
  | [], _, _, _, _, h, _, _ => by simp at h
  | _ :: _, [], _, _, _, _, h, _ => by simp at h
  | p :: P, w :: vs, 0, m, nd, h1, h2, hk => by
    simp at h1 h2; subst h1; subst h2
    show bindL kindOf ((p, w) :: P.zip vs) m p = _
    unfold bindL
    rw [bindL_out fun v hv => (List.nodup_cons.mp nd).1 (List.of_mem_zip hv).1, if_pos hk]
    simp
  | p :: P, w :: vs, i + 1, m, nd, h1, h2, hk => by
    show bindL kindOf ((p, w) :: P.zip vs) m x = _
    unfold bindL
    exact bindL_get (i := i) (List.nodup_cons.mp nd).2 (by simpa using h1) (by simpa using h2) hk
theorem bindC_get {kindOf : Str → Option NameKind} {x : Str} {v : Value} : ∀ {P : List Str} {vs : List Value} {i : Nat} {m : Str → Option Value}, P.Nodup → P[i]? = some x → vs[i]? = some v → kindOf x ≠ some .local →
    bindC kindOf (P.zip vs) m x = some v
  | [], _, _, _, _, h, _, _ => by simp at h
  | _ :: _, [], _, _, _, _, h, _ => by simp at h
  | p :: P, w :: vs, 0, m, nd, h1, h2, hk => by
    simp at h1 h2; subst h1; subst h2
    show bindC kindOf ((p, w) :: P.zip vs) m p = _
    unfold bindC
    rw [bindC_out fun v hv => (List.nodup_cons.mp nd).1 (List.of_mem_zip hv).1, if_neg hk]
    simp
  | p :: P, w :: vs, i + 1, m, nd, h1, h2, hk => by
    show bindC kindOf ((p, w) :: P.zip vs) m x = _
    unfold bindC
    exact bindC_get (i := i) (List.nodup_cons.mp nd).2 (by simpa using h1) (by simpa using h2) hk

/-- the names' values at the entry -/
def start (N : List Str) (vs : List V) : St := vs.map some ++ List.replicate (N.length - vs.length) none

/-- the context of a def's body, at its entry; an exception leaves the frame, then lies as CX says -/
def cxOf (CX : CXT) (P : Program) (w : World) (K : PySem.W.Frag) (mg : Str → Option Value) (base : Heap) (N : List Str) (qual : Str) (scope : Scope) (f : Addr) (cd : Value) (A : Around) (outer : List Env) (s : Shared) (H : Hp) (E : XK) : Cx where
  prog := P
  w := w
  K := K
  mg := mg
  base := base
  A := A.deeper (envOfC qual scope s.heap.objs.size f cd)
  N := N
  s₀ := s
  H₀ := H
  env := envOfC qual scope s.heap.objs.size f cd
  outer := outer
  stack := envOfC qual scope s.heap.objs.size f cd :: outer
  ex := []
  calm := true
  fn := fun _ => true
  pn := []
  xe := fun e s' => wpAny (model P w) (A.deeper (envOfC qual scope s.heap.objs.size f cd)) (leaving (envOfC qual scope s.heap.objs.size f cd) e) (fun _ s'' => CX outer H s E e s'') (fun e' s'' => CX outer H s E e' s'') s'

theorem cell_has {sc : Scope} {n : Nat} {x : Str} (h : sc.names.lookup x = some .cell) : ∃ c, (cellsFrom n sc.names []).lookup x = some c := by
  have q := PySem.W.cellsFrom_some sc.names n [] (.inl h)
  exact Option.isSome_iff_exists.mp q

theorem inv_start {CX : CXT} {P : Program} {w : World} {K : PySem.W.Frag} {mg : Str → Option Value} {base : Heap} {N ps : List Str} {qual : Str} {scope : Scope} {f : Addr} {cd : Value} {A : Around} {outer : List Env} {s s1 : Shared} {H : Hp} {E : XK} {us : List Value} {vs : List V}
    (S : FnScope N ps scope) (hd : A.handled = none) (e0 : Env0 P w K mg base A outer s H) (hl : vs.length = ps.length) (r : Vals vs us)
    (x : InCallC s s.heap.objs.size (bindL (envOfC qual scope s.heap.objs.size f cd).kindOf (ps.zip us) fun _ => none) (cellsFrom (s.heap.objs.size + 1) scope.names []) (bindC (envOfC qual scope s.heap.objs.size f cd).kindOf (ps.zip us) fun _ => none) s1) :
    Inv (cxOf CX P w K mg base N qual scope f cd A outer s H E) [] (start N vs) H s1 := by
  have hpl : ps.length ≤ N.length := by have := congrArg List.length S.pre; rw [List.length_take] at this; omega
  obtain ⟨h1, tk, rfl, hk⟩ := x.done
  have noA : ∀ b : Addr, b ∉ (cxOf CX P w K mg base N qual scope f cd A outer s H E).ex := fun b z => absurd (show b ∈ ([] : List Addr) from z) (by simp)
  refine ⟨⟨e0.mod, S.kind, rfl, rfl, Nat.le_refl _, fun y z c h1 h2 => ?_, fun y hy => ?_, fun y c _ h => ?_, fun _ => hd, Around.frames_deeper e0.frames, .inr ⟨rfl, rfl⟩, fun b z => absurd z (noA b), e0.bs, e0.bsz, fun b _ _ => noA b, fun b z => absurd z (noA b), e0.funs, e0.frf⟩,
    rfl, e0.bare, Un.kept hk, ⟨_, x.toInCall.ns, fun i y v h1 h2 h3 => ?_⟩, fun y c h => ⟨_, x.cell y c h⟩, e0.hok.fresh (Nat.le_refl _), fun y c h => ?_, fun p hp => absurd (show p ∈ ([] : List (Addr × Obj)) from hp) (by simp), e0.hok.kept hk, ?_⟩
  · exact name_of_addr x.apart (PySem.mem_of_lookup h1) (PySem.mem_of_lookup h2)
  · have hy : scope.names.lookup y = some .cell ∨ scope.names.lookup y = some .free := hy
    rcases hy with hy | hy
    · exact cell_has hy
    · exact absurd rfl (S.nofree _ (PySem.mem_of_lookup hy))
  · exact Nat.le_of_lt (x.above y c (PySem.mem_of_lookup h))
  · have hi : i < vs.length := by
      unfold start at h2
      by_cases hi : i < vs.length
      · exact hi
      · rw [List.getElem?_append_right (by simpa using hi)] at h2
        rw [List.getElem?_replicate] at h2
        split at h2 <;> cases h2
    have ha : vs[i]? = some v := by
      unfold start at h2
      rw [List.getElem?_append_left (by simpa using hi), List.getElem?_map] at h2
      cases e : vs[i]? with
      | none => rw [e] at h2; cases h2
      | some a => rw [e] at h2; cases h2; rfl
    obtain ⟨u, hu, rv⟩ := r.get ha
    have hp : ps[i]? = some y := by
      rw [← S.pre, List.getElem?_take_of_lt (by omega)]; exact h1
    have ndP : ps.Nodup := by rw [← S.pre]; exact S.nd.sublist (List.take_sublist _ _)
    refine ⟨u, rv, ?_⟩
    rcases S.par y (List.mem_of_getElem? hp) with k | k
    · exact .inl ⟨k, bindL_get ndP hp hu k⟩
    · obtain ⟨c, e⟩ := cell_has (n := s.heap.objs.size + 1) k
      refine .inr ⟨.inl k, c, e, ?_⟩
      have q := x.cell y c e
      rw [bindC_get ndP hp hu (by show scope.names.lookup y ≠ _; rw [k]; decide)] at q
      exact q
  · exact e0.hok.fresh (Nat.le_of_lt (x.above y c (PySem.mem_of_lookup h)))
  · unfold start
    show _ = N.length
    rw [List.length_append, List.length_map, List.length_replicate]
    omega

/-- THE RULE: a def (or a method) of the text, by its body. The body's reading t is chosen for each entry; it is run at the parameters' values -/
theorem fn_of {CX : CXT} {P : Program} {w : World} {K : PySem.W.Frag} {mg : Str → Option Value} {base : Heap} {k : Nat} {f : Addr} {name qual : Str} {params : Arguments} {body : List Stmt} {scope : Scope} {dV kV doc pm cdv ct oc : Value} {an od : Option Addr}
    {osl : Array (Option Value)} {N ps : List Str} {sp : Sp} (lk : K.lookup f = some ⟨oc, od, .func (PySem.W.fnOf name qual params body scope dV kV doc pm an cdv ct), osl⟩) (hcd : PySem.W.codeIn K cdv qual = true) (S : FnScope N ps scope)
    (len : ∀ vs H Q E, sp vs H Q E → vs.length = ps.length)
    (hbody : ∀ (A : Around) (outer : List Env) (s : Shared) (H : Hp) (vs : List V) (Q : VK) (E : XK), Room k (A.deeper (envOfC qual scope s.heap.objs.size f cdv)) → sp vs H Q E →
      ∃ t, PSs (cxOf CX P w K mg base N qual scope f cdv A outer s H E) body t ∧ t { nx := fun _ H' => Q .non H', rt := Q } (start N vs) H) :
    FnOk P w K mg base CX (k + 1) f (PySem.W.fnOf name qual params body scope dV kV doc pm an cdv ct) ps sp := by
  refine ⟨len, fun A outer s H args us vs Q E hr e0 hb r hsp => ?_⟩
  have hl := len _ _ _ _ hsp
  have KX : K.In s.heap := e0.mod.kin.keeps fun b o e => (e0.bs b o e).1
  have lim : s.heap.NoLimit := e0.mod.nolimit.keeps fun b o e => (e0.bs b o e).1
  have hkind : ∀ y ∈ ps.zip us, scope.names.lookup y.1 = some .local ∨ (scope.names.lookup y.1 = some .cell ∧ ((cellsFrom (s.heap.objs.size + 1) scope.names []).lookup y.1).isSome = true) := fun ⟨n, v⟩ hy => by
    rcases S.par n (List.of_mem_zip hy).1 with q | q
    · exact .inl q
    · exact .inr ⟨q, PySem.W.cellsFrom_some _ _ _ (.inl q)⟩
  refine codeAny_call_function hr.depth (KX _ _ lk) rfl S.co S.gen rfl (PySem.W.codeRec_of KX hcd) (hb _ _ _ _ ?_)
  refine wpAny_newFunctionEnv_cells S.kind hkind fun env he s1 x => ?_
  subst he
  refine ⟨lim.keeps x.toInCall.keep, codeAny_func ?_⟩
  obtain ⟨t, ht, hq⟩ := hbody A outer s H vs Q E (hr.deeper _) hsp
  have I : Inv (cxOf CX P w K mg base N qual scope f cdv A outer s H E) [] (start N vs) H s1 := inv_start S hr.hd e0 hl r x
  refine wpAny_mono (ht [] s1 (start N vs) H _ I hq) (fun fl s' hs => ?_) fun e s' hs => hs
  have fin : ∀ {σ' : St} {H' : Hp} {v : V} {u : Value}, Inv (cxOf CX P w K mg base N qual scope f cdv A outer s H E) [] σ' H' s' → RelV v u → Q v H' → CE outer P w H s Q u s' :=
    fun {σ' H' v u} J rv q => ⟨v, H', J.os, J.bare, J.base, J.hok, rv, q⟩
  cases fl with
  | ret u =>
    obtain ⟨v, σ', H', J, rv, q⟩ := hs
    exact fin J rv q
  | next =>
    obtain ⟨σ', H', J, q⟩ := hs
    exact fin (v := V.non) (u := Value.none) J rfl q
  | brk =>
    obtain ⟨_, _, _, q⟩ := hs
    exact False.elim q
  | cont =>
    obtain ⟨_, _, _, q⟩ := hs
    exact False.elim q
end L2

namespace L2
open PySem PySem.Spec PyProof.Rows
section
variable {X : Cx} {x : Str} {p pos : Pos} {e : Expr} {es : List Expr} {t : TA} {id T : String} {r : List V → Hp → VK → Prop}

def tCB (r : List V → Hp → VK → Prop) (t : TA) : TE := fun σ H Q => t σ H fun vs H1 => r vs H1 Q
/-- f(e, ..), f a built-in function -/
theorem pe_callB (hc : CallR X (.builtin id) r) (hg : Gl X x) (hm : X.mg x = none) (hv : bootBuiltins x = some (.builtin id)) (ha : PA X (e :: es) t) (hn : x ≠ "__name__" := by decide) (hdb : (x == ("__debug__" : Str)) = false := by decide)
    (he : starEach (e :: es) X.env = (false, eval e X.env) :: starEach es X.env := by rfl) (hpl : (backTo pos (starEach es X.env)).any (·.1) = false := by rfl) : PE X (.Call (.Name x p) (e :: es) [] pos) (tCB r t) := by
  intro pins s σ H Q I h
  refine wpAny_Call_Name_kw (ld_blt I hg hm hv ?_ hn hdb)
  exact PyProof.Rows.callWith_builtin1 (thn (ha pos pins s σ H _ I h) fun us s1 ⟨vs, H1, I1, r1, q1⟩ => hc pins s1 σ H1 vs us Q I1 r1 q1) he hpl
/-- T(e, ..), T a built-in type -/
theorem pe_callTy (hc : CallR X (.type T) r) (hg : Gl X x) (hm : X.mg x = none) (hv : bootBuiltins x = some (.type T)) (ha : PA X (e :: es) t) (hn : x ≠ "__name__" := by decide) (hdb : (x == ("__debug__" : Str)) = false := by decide)
    (he : starEach (e :: es) X.env = (false, eval e X.env) :: starEach es X.env := by rfl) (hpl : (backTo pos (starEach es X.env)).any (·.1) = false := by rfl) : PE X (.Call (.Name x p) (e :: es) [] pos) (tCB r t) := by
  intro pins s σ H Q I h
  refine wpAny_Call_Name_kw (ld_blt I hg hm hv ?_ hn hdb)
  exact PyProof.Rows.callWith_type1 (thn (ha pos pins s σ H _ I h) fun us s1 ⟨vs, H1, I1, r1, q1⟩ => hc pins s1 σ H1 vs us Q I1 r1 q1) he hpl
end
end L2

namespace HT
open PySem PyProof.Rows

/-- t < u of tuples of ints -/
def lexLt : List Int → List Int → Bool
  | [], [] => false
  | [], _ :: _ => true
  | _ :: _, [] => false
  | x :: xs, y :: ys => if x = y then lexLt xs ys else decide (x < y)
theorem lexLt_cons (x y : Int) (xs ys : List Int) : lexLt (x :: xs) (y :: ys) = if x = y then lexLt xs ys else decide (x < y) := rfl
theorem lexLt_nil_nil : lexLt [] [] = false := rfl
theorem lexLt_nil_cons (y : Int) (ys : List Int) : lexLt [] (y :: ys) = true := rfl
theorem lexLt_cons_nil (x : Int) (xs : List Int) : lexLt (x :: xs) [] = false := rfl

theorem eqAt_int (A : Around) (s : Shared) (a : Int) (t : Tok) (c : Int) (u : Tok) : ∃ e, SeqAt.EqAt A s (.int a t) (.int c u) e ∧ (e = true ↔ a = c) :=
  ⟨(a == c), SeqAt.EqAt.int_int a t c u, by simp⟩
theorem rcLt_int (A : Around) (s : Shared) (a : Int) (t : Tok) (c : Int) (u : Tok) (prog : Program) (w : World) (E : Value → Shared → Prop) (Q : Value → Shared → Prop) (h : Q (.bool (decide (a < c))) s) :
    wpAny (model prog w) A (richCompare .Lt (.int a t) (.int c u)) Q E s :=
  (PyProof.Rows.lt_int h : wpAny (model prog w) A (compareOp .Lt (.int a t) (.int c u)) Q E s)

section
open PySem.SeqAt
open PySem.AutoSeq1 (wpAny_loadPart')
open PySem.MeetsSeq PySem.MeetsSeq2 PySem.MeetsSeq3

theorem tuple_lt_ints (l b : Addr) (items items2 : Array Value) (n n2 : Nat) (dd dd2 : Option Addr) (sl sl2 : Array (Option Value)) (ns ms : List Int) (hi : IntsAre items.toList ns) (hj : IntsAre items2.toList ms) :
    Meets (Builtin.«tuple.__lt__» ⟨[.ref l, .ref b], []⟩)
      (fun _ R s => s.heap.get? l = some { cls := .type "tuple", dict := dd, data := .seq items n, slots := sl } ∧ s.heap.get? b = some { cls := .type "tuple", dict := dd2, data := .seq items2 n2, slots := sl2 } ∧
        R (.ok (.ret (.bool (lexLt ns ms)))) s) :=
  .of_wp fun prog w A R s h => by
    obtain ⟨hp, g, d, tk, os⟩ := s; obtain ⟨hl, hb, h⟩ := h
    have f2 := AutoSeq1.sub_tuple_tuple
    have z1 : items.size = ns.length := by rw [← hi.length]; simp
    have z2 : items2.size = ms.length := by rw [← hj.length]; simp
    wp_walk using wpAny_loadPart' hl, wpAny_loadPart' hb, wpAny_forIn_list _ (fun rest b s' => b.1 = none ∧ s' = ⟨hp, g, d, tk, os⟩ ∧ ∃ (vs ws : List Value) (ns' ms' : List Int), rest = vs.zip ws ∧
      IntsAre vs ns' ∧ IntsAre ws ms' ∧ ns'.length + items2.size = ms'.length + items.size ∧ R (.ok (.ret (.bool (lexLt ns' ms')))) ⟨hp, g, d, tk, os⟩) _
    case turn =>
      rintro ⟨y, x⟩ rest b s' ⟨hb', rfl, vs, ws, ns', ms', hz, hvi, hwi, hlen, hR⟩
      cases hvi with
      | nil => rw [List.zip_nil_left] at hz; cases hz
      | cons a t hvi' =>
        cases hwi with
        | nil => rw [List.zip_nil_right] at hz; cases hz
        | cons c u hwi' =>
          rw [List.zip_cons_cons] at hz
          injection hz with hyx hrest
          injection hyx with hy hx
          subst hy hx
          rw [lexLt_cons] at hR
          simp only [List.length_cons] at hlen
          obtain ⟨e, he, hiff⟩ := eqAt_int A.in1 ⟨hp, g, d, tk, os⟩ a t c u
          refine wpAny_bind (he prog w _ _ ?_)
          cases e with
          | true =>
            rw [if_pos (hiff.mp rfl)] at hR
            wp_walk
            exact ⟨rfl, rfl, _, _, _, _, hrest, hvi', hwi', by omega, hR⟩
          | false =>
            rw [if_neg (fun q => absurd (hiff.mpr q) Bool.false_ne_true)] at hR
            have hri := rcLt_int A.in1 ⟨hp, g, d, tk, os⟩ a t c u prog w
            wp_walk using hri
            exact ⟨_, rfl, by simpa using hR⟩
    case fin =>
      rintro ⟨b1, b2⟩ s' ⟨hb', rfl, vs, ws, ns', ms', hz, hvi, hwi, hlen, hR⟩
      simp only at hb'
      subst hb'
      have hv : lexLt ns' ms' = decide (items.size < items2.size) := by
        cases hvi with
        | nil =>
          cases hwi with
          | nil =>
            simp only [List.length_nil] at hlen
            rw [lexLt_nil_nil]
            exact (decide_eq_false (by omega)).symm
          | cons c u hw =>
            simp only [List.length_nil, List.length_cons] at hlen
            rw [lexLt_nil_cons]
            exact (decide_eq_true (by omega)).symm
        | cons a t hv =>
          cases hwi with
          | nil =>
            simp only [List.length_nil, List.length_cons] at hlen
            rw [lexLt_cons_nil]
            exact (decide_eq_false (by omega)).symm
          | cons c u hw =>
            rw [List.zip_cons_cons] at hz
            cases hz
      rw [hv] at hR
      wp_walk
      exact ⟨_, rfl, by simpa [Builtin.Tuple.tupleCompareSizes] using hR⟩
    case h =>
      exact ⟨rfl, rfl, items.toList, items2.toList, ns, ms, rfl, hi, hj, by omega, h⟩
end

section
variable {prog : Program} {w : World} {A : Around} {E : Value → Shared → Prop} {s : Shared}

theorem lt_tupInts {l b : Addr} {items items2 : Array Value} {ns ms : List Int} {Q : Value → Shared → Prop} (hl : IsTup s.heap l items) (hb : IsTup s.heap b items2) (hi : IntsAre items.toList ns) (hj : IntsAre items2.toList ms)
    (hu : A.units < cLine) (h : Q (.bool (lexLt ns ms)) s) : wpAny (model prog w) A (compareOp .Lt (.ref l) (.ref b)) Q E s := by
  obtain ⟨⟨cls, dd, data, sl⟩, ho, hc, n, hd⟩ := id hl
  obtain ⟨⟨cls2, dd2, data2, sl2⟩, ho2, hc2, n2, hd2⟩ := id hb
  simp only at hc hd hc2 hd2
  subst hc hd hc2 hd2
  exact richCompare_meets_room (op := .Lt) ⟨_, ho, rfl⟩ ⟨_, ho2, rfl⟩ PySem.F.slot_tuple_lt PySem.F.entry_tuple_lt (PySem.F.args_tuple_lt_2 _ _) (tuple_lt_ints l b items items2 n n2 dd dd2 sl sl2 ns ms hi hj)
    ⟨ho, ho2, show Value.bool (lexLt ns ms) ≠ Value.notImplemented ∧ Q (.bool (lexLt ns ms)) s from ⟨(fun x => nomatch x), h⟩⟩ hu

/-! ### t[a:b], not the whole -/
/-- a slice's bound as a place among n (d where it is left out) -/
def sIx (n d : Nat) : Option Int → Nat
  | none => d
  | some v => if v < 0 then (v + (n : Int)).toNat else min v.toNat n
end
end HT

namespace L2
open PySem PySem.Spec PyProof.Rows

/-! ### the parts of a slice -/
abbrev TO := St → Hp → (Option Int → Hp → Prop) → Prop
theorem intsAre_of {ns : List Int} : ∀ {us : List Value}, Vals (ns.map V.int) us → IntsAre us ns := by
  induction ns with
  | nil => intro us r; rw [List.map_nil] at r; cases r; exact .nil
  | cons n ns ih =>
    intro us r
    rw [List.map_cons] at r
    cases r with
    | cons r1 r2 =>
      obtain ⟨t, e⟩ := r1
      subst e
      exact .cons n t (ih r2)

section
variable {X : Cx} {e : Expr} {te : TE} {lo hi : Option Expr} {tl th : TO} {pos p2 : Pos}

/-- what a slice of a value is, by values: the slice object stands at sl -/
def SlR (X : Cx) (r : V → Option Int → Option Int → Hp → VK → Prop) : Prop :=
  ∀ (pins : List (Addr × Obj)) (s : Shared) (σ : St) (H : Hp) (x : V) (v vl vu : Value) (lo hi : Option Int) (sl : Addr) (Q : VK), Inv X pins σ H s → RelV x v → s.heap.IsSliceOf sl vl vu .none → IsPart vl lo → IsPart vu hi → r x lo hi H Q →
    ∃ T id, typeLookup (.type T) "__getitem__" = pure (some (.builtin id)) ∧ s.TypeIs v T ∧ wpAny (model X.prog X.w) X.A (getItem v (.ref sl)) (EP X pins σ Q) X.xe s
theorem SlR.or {r r' : V → Option Int → Option Int → Hp → VK → Prop} (h : SlR X r) (h' : SlR X r') : SlR X (fun x lo hi H Q => r x lo hi H Q ∨ r' x lo hi H Q) := by
  intro pins s σ H x v vl vu lo hi sl Q I rx hs pl pu q
  rcases q with q | q
  · exact h pins s σ H x v vl vu lo hi sl Q I rx hs pl pu q
  · exact h' pins s σ H x v vl vu lo hi sl Q I rx hs pl pu q
/-! ### t < u, t + u -/
def rLtT (K : PySem.W.Frag) : R2 := fun x y H Q => ∃ a b ns ms, x = .ref a ∧ y = .ref b ∧ SqT K H a (ns.map V.int) ∧ SqT K H b (ms.map V.int) ∧ Q (.bl (HT.lexLt ns ms)) H
theorem op_ltT (hu : X.A.units < cLine) : OpR X (compareOp .Lt) (rLtT X.K) := by
  intro pins s σ H x y v u Q I rx ry h
  obtain ⟨a, b, ns, ms, rfl, rfl, ha, hb, q⟩ := h
  cases rx
  cases ry
  obtain ⟨its, r1, p1, _⟩ := I.tuple ha
  obtain ⟨its2, r2, p2, _⟩ := I.tuple hb
  have i1 : IntsAre its.toArray.toList ns := intsAre_of r1
  have i2 : IntsAre its2.toArray.toList ms := intsAre_of r2
  exact HT.lt_tupInts p1 p2 i1 i2 hu ⟨.bl (HT.lexLt ns ms), H, I, rfl, q⟩
end
end L2

namespace L2
open PySem PySem.Spec PyProof.Rows

/-! ### places -/
/-- the place that an index of any sign means -/
def ixN (n : Nat) (i : Int) : Option Nat := if 0 ≤ i then (if i < n then some i.toNat else none) else if -(n : Int) ≤ i then some (i + n).toNat else none
def atI {α : Type} (xs : List α) (i : Int) : Option α := (ixN xs.length i).bind fun j => xs[j]?
theorem ixN_seq {n : Nat} {i : Int} {j : Nat} (h : ixN n i = some j) : seqIndex? i n = some j ∧ j < n ∧ -(n : Int) ≤ i ∧ i < n := by
  unfold ixN at h
  by_cases h0 : 0 ≤ i
  · rw [if_pos h0] at h
    by_cases h1 : i < n
    · rw [if_pos h1] at h
      have e : i.toNat = j := Option.some.inj h
      exact ⟨by rw [seqIndex_of h0 h1, e], by omega, by omega, h1⟩
    · rw [if_neg h1] at h; cases h
  · rw [if_neg h0] at h
    by_cases h1 : -(n : Int) ≤ i
    · rw [if_pos h1] at h
      have e : (i + n).toNat = j := Option.some.inj h
      exact ⟨by rw [seqIndex_neg (by omega) h1, e], by omega, h1, by omega⟩
    · rw [if_neg h1] at h; cases h
theorem atI_get {α : Type} {xs : List α} {i : Int} {v : α} (h : atI xs i = some v) : ∃ j, seqIndex? i xs.length = some j ∧ xs[j]? = some v ∧ j < xs.length ∧ -(xs.length : Int) ≤ i ∧ i < xs.length := by
  unfold atI at h
  cases e : ixN xs.length i with
  | none => rw [e] at h; cases h
  | some j =>
    rw [e] at h
    obtain ⟨h1, h2, h3, h4⟩ := ixN_seq e
    exact ⟨j, h1, h, h2, h3, h4⟩
/-! ### what may be subscripted -/
/-- what stands as an index of a plain subscript -/
def PlainIx (b : Expr) : Prop := ∀ o i, subscripted b false o i = operate [o, i] (getItem o i)
/-- a subscript by values -/
def IxR (X : Cx) (r : R2) : Prop :=
  ∀ (value slice : Expr) (pins : List (Addr × Obj)) (s : Shared) (σ : St) (H : Hp) (x y : V) (v u : Value) (Q : VK), Inv X pins σ H s → RelV x v → RelV y u → r x y H Q →
    subscripted slice false v u = operate [v, u] (getItem v u) → wpAny (model X.prog X.w) X.A (subscriptTail value slice v u) (EP X pins σ Q) X.xe s
/-- a call of a builtin's method by values: the receiver, the arguments -/
def MtR (X : Cx) (id : String) (r : V → List V → Hp → VK → Prop) : Prop :=
  ∀ (pins : List (Addr × Obj)) (s : Shared) (σ : St) (H : Hp) (x : V) (xs : List V) (v : Value) (us : List Value) (Q : VK), Inv X pins σ H s → RelV x v → Vals xs us → r x xs H Q →
    wpAny (model X.prog X.w) X.A (call (.builtin id) (v :: us)) (EP X pins σ Q) X.xe s
section
variable {X : Cx} {a b : Expr} {ta tb : TE} {pos : Pos}
theorem IxR.or {r r' : R2} (h : IxR X r) (h' : IxR X r') : IxR X (fun x y H Q => r x y H Q ∨ r' x y H Q) := by
  intro value slice pins s σ H x y v u Q I rx ry q hs
  rcases q with q | q
  · exact h value slice pins s σ H x y v u Q I rx ry q hs
  · exact h' value slice pins s σ H x y v u Q I rx ry q hs
theorem MtR.or {id : String} {r r' : V → List V → Hp → VK → Prop} (h : MtR X id r) (h' : MtR X id r') : MtR X id (fun x xs H Q => r x xs H Q ∨ r' x xs H Q) := by
  intro pins s σ H x xs v us Q I rx rs q
  rcases q with q | q
  · exact h pins s σ H x xs v us Q I rx rs q
  · exact h' pins s σ H x xs v us Q I rx rs q
/-- a[b] -/
theorem pe_ix {r : R2} (hr : IxR X r) (ha : PE X a ta) (hb : PE X b tb) (hs : PlainIx b) : PE X (.Subscript a b pos) (tOp r ta tb) := by
  intro pins s σ H Q I h
  exact Subscript_ (binT ha hb I h fun v u s2 x y H2 I2 rx ry q => hr a b pins s2 σ H2 x y v u Q I2 rx ry q (hs _ _))

def rIxL (K : PySem.W.Frag) : R2 := fun x y H Q => ∃ p xs i v, x = .ref p ∧ y = .int i ∧ SqL K H p xs ∧ atI xs i = some v ∧ Q v H
def rIxT (K : PySem.W.Frag) : R2 := fun x y H Q => ∃ p xs i v, x = .ref p ∧ y = .int i ∧ SqT K H p xs ∧ atI xs i = some v ∧ Q v H
def rIxS : R2 := fun x y H Q => ∃ z i c, x = .str z ∧ y = .int i ∧ z.length ≤ sizeLine ∧ atI z.cps.toList i = some c ∧ Q (.str ⟨#[c]⟩) H
theorem ix_list : IxR X (rIxL X.K) := by
  intro value slice pins s σ H x y v u Q I rx ry h hs
  obtain ⟨p, xs, i, z, rfl, rfl, hq, he, q⟩ := h
  cases rx
  obtain ⟨t, rfl⟩ := ry
  obtain ⟨its, r, pl, hz⟩ := I.list hq
  obtain ⟨j, h1, h2, h3, h4, h5⟩ := atI_get he
  obtain ⟨w, ew, rw'⟩ := r.get h2
  have hl := r.length
  have hn := line63
  have fin : EP X pins σ Q w s := ⟨z, H, I, rw', q⟩
  by_cases h0 : 0 ≤ i
  · have hj : i.toNat = j := by
      rw [seqIndex_of h0 h5] at h1
      exact Option.some.inj h1
    exact item_listR pl.isList h0 (by omega) (by rw [hj]; simpa using ew) fin hs
  · have hj : (i + (its.toArray.size : Int)).toNat = j := by
      rw [seqIndex_neg (by omega) h4] at h1
      rw [List.size_toArray, ← hl]
      exact Option.some.inj h1
    exact subscriptTail_builtinR (x := w) pl.isList.typeIs slot_list_getitem.lookup
      (wpAny_getItem_list_neg (Q := fun r s' => r = w ∧ EP X pins σ Q r s') pl.isList (by omega) (by rw [List.size_toArray] <;> omega) (by omega) (by rw [hj]; simpa using ew) ⟨rfl, fin⟩) hs
theorem ix_tup : IxR X (rIxT X.K) := by
  intro value slice pins s σ H x y v u Q I rx ry h hs
  obtain ⟨p, xs, i, z, rfl, rfl, hq, he, q⟩ := h
  cases rx
  obtain ⟨t, rfl⟩ := ry
  obtain ⟨its, r, pl, hz⟩ := I.tuple hq
  obtain ⟨j, h1, h2, h3, h4, h5⟩ := atI_get he
  obtain ⟨w, ew, rw'⟩ := r.get h2
  have hl := r.length
  have hn := line63
  have fin : EP X pins σ Q w s := ⟨z, H, I, rw', q⟩
  exact subscriptTail_builtinR (x := w) pl.typeIs slot_tuple_getitem.lookup
    (getItem_tuple (j := j) (Q := fun r s' => r = w ∧ EP X pins σ Q r s') pl (by omega) (by omega) (by rw [List.size_toArray, ← hl]; exact h1) (by simpa using ew) ⟨rfl, fin⟩) hs
theorem ix_str : IxR X rIxS := by
  intro value slice pins s σ H x y v u Q I rx ry h hs
  obtain ⟨z, i, c, rfl, rfl, hz, he, q⟩ := h
  obtain ⟨t, rfl⟩ := rx
  obtain ⟨t', rfl⟩ := ry
  obtain ⟨j, h1, h2, h3, h4, h5⟩ := atI_get he
  have hl : z.cps.toList.length = z.length := by simp [Str.length]
  rw [hl] at h1 h4 h5
  have hn := line63
  exact tail_any (typeIs_str s z t) slot_str_getitem.lookup (getItem_str (c := c) (by
    have e1 : decide (i < -(2 ^ 63 : Int)) = false := decide_eq_false (by omega)
    have e2 : decide (i ≥ 2 ^ 63) = false := decide_eq_false (by omega)
    rw [e1, e2, Bool.or_false]) (by rw [h1]; simpa using h2) ⟨.str ⟨#[c]⟩, H, I.tok _, ⟨_, rfl⟩, q⟩) hs
/-! ### xs[i] = v, any sign -/
theorem Inv.lst {pins : List (Addr × Obj)} {σ : St} {H : Hp} {s : Shared} {p : Addr} {xs : List V} (I : Inv X pins σ H s) (h : H p = some (.lst xs)) :
    ∃ (its : List Value) (n : Nat), Vals xs its ∧ s.heap.get? p = some { cls := .type "list", data := .seq its.toArray n } ∧ xs.length ≤ sizeLine := by
  obtain ⟨z, its, n, r, e⟩ := I.hok p _ h
  exact ⟨its, n, r, e, z⟩
/-! ### slices -/
/-! ### in, not in: flat items -/
/-! ### len, list(x), tuple(x) of any list or tuple that is read -/
theorem call_len_seq : CallR X (.builtin "len") (fun xs H Q => ∃ p ys, xs = [.ref p] ∧ (SqL X.K H p ys ∨ SqT X.K H p ys) ∧ Q (.int ys.length) H) := by
  intro pins s σ H xs us Q I r h
  obtain ⟨p, ys, rfl, hq, q⟩ := h
  obtain ⟨u, rfl, rx⟩ := vals1 r
  cases rx
  have hn := line63
  rcases hq with hq | hq
  · obtain ⟨its, r', pl, hz⟩ := I.list hq
    have hlen := r'.length
    exact Calls.call_len_list pl.isList (by simp only [List.size_toArray] <;> omega) ⟨.int ys.length, H, I.tok _, ⟨s.toks + 1, by rw [List.size_toArray, hlen]⟩, q⟩
  · obtain ⟨its, r', pl, hz⟩ := I.tuple hq
    have hlen := r'.length
    exact len_tuple pl (by simp only [List.size_toArray] <;> omega) ⟨.int ys.length, H, I.tok _, ⟨s.toks + 1, by rw [List.size_toArray, hlen]⟩, q⟩
theorem call_len_str : CallR X (.builtin "len") (fun xs H Q => ∃ z, xs = [.str z] ∧ z.length ≤ sizeLine ∧ Q (.int z.length) H) := by
  intro pins s σ H xs us Q I r h
  obtain ⟨z, rfl, hz, q⟩ := h
  obtain ⟨u, rfl, t, rfl⟩ := vals1 r
  have hn := line63
  exact len_str (by omega) ⟨.int z.length, H, I.tok _, ⟨_, rfl⟩, q⟩
theorem CallR.or {f : Value} {r r' : List V → Hp → VK → Prop} (h : CallR X f r) (h' : CallR X f r') : CallR X f (fun xs H Q => r xs H Q ∨ r' xs H Q) := by
  intro pins s σ H xs us Q I rs q
  rcases q with q | q
  · exact h pins s σ H xs us Q I rs q
  · exact h' pins s σ H xs us Q I rs q
theorem call_tuple_of : CallR X (.type "tuple") (fun xs H Q => ∃ p ys, xs = [.ref p] ∧ ((SqL X.K H p ys ∧ ∀ l, H l = none → Q (.ref l) (upd H l (.tup ys))) ∨ (SqT X.K H p ys ∧ Q (.ref p) H))) := by
  intro pins s σ H xs us Q I r h
  obtain ⟨p, ys, rfl, h⟩ := h
  obtain ⟨u, rfl, rx⟩ := vals1 r
  cases rx
  rcases h with ⟨hq, q⟩ | ⟨hq, q⟩
  · obtain ⟨its, r', pl, hz⟩ := I.list hq
    have hlen := r'.length
    refine call_tuple_list pl.isList (fun h' kp => ?_) (by simp only [List.size_toArray] <;> omega)
    have I1 : Inv X pins σ H { s with heap := h' } := I.kept (t' := s.toks) kp
    have I2 : Inv X pins σ (upd H h'.objs.size (.tup ys)) { s with heap := h'.push { cls := .type "tuple", data := .seq its.toArray } } :=
      I1.laid (t' := s.toks) (fun b o e => Heap.get?_push_of_some _ e) (Nat.le_refl _) (show ObjOk X.prog X.w _ _ _ (.tup ys) from ⟨hz, its, r', IsTup.new _ _⟩)
    exact ⟨.ref h'.objs.size, _, I2, rfl, q _ (I1.hok.fresh (Nat.le_refl _))⟩
  · obtain ⟨its, r', pl, hz⟩ := I.tuple hq
    exact call_tuple_same pl ⟨.ref p, H, I, rfl, q⟩

/-! ### the call of a builtin's method: o.m(..) -/
/-- the value is of that builtin type -/
def tyV (K : PySem.W.Frag) (T : String) (x : V) (H : Hp) : Prop := match x with
  | .str _ => T = "str"
  | .int _ => T = "int"
  | .ref p => (T = "list" ∧ ∃ xs, SqL K H p xs) ∨ (T = "tuple" ∧ ∃ o, K.lookup p = some o ∧ o.cls = .type "tuple" ∧ o.dict = none) ∨
      (T = "dict" ∧ ((∃ kvs, H p = some (.dK kvs)) ∨ ∃ kvs, H p = some (.dT kvs))) ∨ (T = "set" ∧ ∃ S n, H p = some (.set S n))
  | _ => False
theorem tyV_is {pins : List (Addr × Obj)} {σ : St} {H : Hp} {s : Shared} {T : String} {x : V} {v : Value} (I : Inv X pins σ H s) (r : RelV x v) (ty : tyV X.K T x H) :
    s.TypeIs v T ∧ ∀ a, v = .ref a → ∃ ob, s.heap.get? a = some ob ∧ ob.dict = none := by
  cases x with
  | str z =>
    obtain ⟨t, rfl⟩ := r
    cases (show T = "str" from ty)
    exact ⟨typeIs_str s z t, fun _ e => nomatch e⟩
  | int i =>
    obtain ⟨t, rfl⟩ := r
    cases (show T = "int" from ty)
    exact ⟨typeIs_int s i t, fun _ e => nomatch e⟩
  | ref p =>
    cases r
    rcases ty with ⟨rfl, xs, hq⟩ | ⟨rfl, o, hk, hc, hd⟩ | ⟨rfl, hk⟩ | ⟨rfl, S, n, hk⟩
    · obtain ⟨its, _, pl, _⟩ := I.list hq
      refine ⟨pl.isList.typeIs, fun a e => ?_⟩
      cases e
      obtain ⟨o, n, e, c, hd, _⟩ := pl
      exact ⟨o, e, hd⟩
    · refine ⟨⟨o, I.kIn p o hk, hc⟩, fun a e => ?_⟩
      cases e
      exact ⟨o, I.kIn _ o hk, hd⟩
    · have z : ∃ o, s.heap.get? p = some o ∧ o.ExactDict := by
        rcases hk with ⟨kvs, hk⟩ | ⟨kvs, hk⟩
        · obtain ⟨_, _, _, _, o, _, _, e, ex, _⟩ := I.hok p _ hk
          exact ⟨o, e, ex⟩
        · obtain ⟨_, _, _, _, o, _, _, e, ex, _⟩ := I.hok p _ hk
          exact ⟨o, e, ex⟩
      obtain ⟨o, e, ex⟩ := z
      refine ⟨⟨o, e, ex.1⟩, fun a e2 => ?_⟩
      cases e2
      exact ⟨o, e, ex.2.1⟩
    · obtain ⟨o, _, _, _, e, ex, _⟩ := I.hok p _ hk
      refine ⟨⟨o, e, ex.1⟩, fun a e2 => ?_⟩
      cases e2
      exact ⟨o, e, ex.2.1⟩
  | _ => exact False.elim ty
def tBM0 (K : PySem.W.Frag) (T : String) (r : V → List V → Hp → VK → Prop) (to : TE) : TE := fun σ H Q => to σ H fun x H1 => tyV K T x H1 ∧ r x [] H1 Q
def tBM (K : PySem.W.Frag) (T : String) (r : V → List V → Hp → VK → Prop) (to : TE) (t : TA) : TE := fun σ H Q => to σ H fun x H1 => tyV K T x H1 ∧ t σ H1 fun xs H2 => r x xs H2 Q
variable {o e : Expr} {es : List Expr} {to : TE} {t : TA} {name : Str} {apos cpos : Pos} {T id : String} {r : V → List V → Hp → VK → Prop}
theorem pe_bm0 (pa : PlainAttrs T) (slot : Slot T name id) (hty : typeOf (.builtin id) = pure (.type "method_descriptor")) (hm : MtR X id r) (ho : PE X o to)
    (hbase : attributeBase o name X.env (eval o X.env) = eval o X.env := by rfl) (hline : (apos.endLine == cpos.line) = true := by rfl) : PE X (.Call (.Attribute o name apos) [] [] cpos) (tBM0 X.K T r to) := by
  intro pins s σ H Q I h
  refine wpAny_Call_method0_late hbase hline (thn (ho pins s σ H _ I h) fun v s1 ⟨x, H1, I1, r1, ty, q1⟩ => ?_)
  obtain ⟨h1, h2⟩ := tyV_is I1 r1 ty
  exact ⟨T, id, pa, slot, hty, h1, h2, Calls.callWith_builtin rfl (PySem.evalArgs_none (hm pins s1 σ H1 x [] v [] Q I1 r1 .nil q1))⟩
theorem pe_bm (pa : PlainAttrs T) (slot : Slot T name id) (hty : typeOf (.builtin id) = pure (.type "method_descriptor")) (hm : MtR X id r) (ho : PE X o to) (ha : PA X (e :: es) t)
    (hbase : attributeBase o name X.env (eval o X.env) = eval o X.env := by rfl)
    (hfew : ((backTo cpos (starEach (e :: es) X.env)).all (fun x => !x.1) && (backToKw cpos (keywordEach [] X.env)).all (fun x => x.1.isSome)
      && decide ((e :: es).length + ([] : List Keyword).length + (if ([] : List Keyword).isEmpty then 0 else 1) < 30)) = true := by rfl)
    (hline : (apos.endLine == cpos.line) = true := by rfl) (hs : starEach (e :: es) X.env = (false, eval e X.env) :: starEach es X.env := by rfl) (hplain : (backTo cpos (starEach es X.env)).any (·.1) = false := by rfl) :
    PE X (.Call (.Attribute o name apos) (e :: es) [] cpos) (tBM X.K T r to t) := by
  intro pins s σ H Q I h
  refine wpAny_Call_method_late hbase hfew hline rfl (thn (ho pins s σ H _ I h) fun v s1 ⟨x, H1, I1, r1, ty, q1⟩ => ?_)
  obtain ⟨h1, h2⟩ := tyV_is I1 r1 ty
  refine ⟨T, id, pa, slot, hty, h1, h2, ?_⟩
  have hA := ha cpos pins s1 σ H1 _ I1 q1
  rw [hs] at hA ⊢
  refine Calls.callWith_builtin (by show (false || (backTo cpos (starEach es X.env)).any (·.1)) = false; rw [hplain] <;> rfl) (Calls.evalArgs_plain ?_)
  exact thn hA fun us s2 ⟨vs, H2, I2, r2, q2⟩ => hm pins s2 σ H2 x vs v us Q I2 r1 r2 q2
/- xs.append(e), list.index on a module's tuple .. are MtR facts of 06m -/
end
end L2

namespace L2
open PySem PySem.Spec PyProof.Rows

def MtM (X : Cx) (id : String) (r : V → List V → Hp → VK → Prop) : Prop :=
  ∀ (pins : List (Addr × Obj)) (s : Shared) (σ : St) (H : Hp) (x : V) (xs : List V) (v : Value) (us : List Value) (Q : VK), Inv X pins σ H s → RelV x v → Vals xs us → r x xs H Q →
    wpAny (model X.prog X.w) X.A (call (.builtin id) (v :: us)) (EP X pins σ Q) X.xe s

/-! ### lists of values -/
theorem Vals.one : ∀ {x : V} {us : List Value}, Vals [x] us → ∃ u, us = [u] ∧ RelV x u
  | _, _, .cons r .nil => ⟨_, rfl, r⟩
theorem Vals.two : ∀ {x y : V} {us : List Value}, Vals [x, y] us → ∃ u v, us = [u, v] ∧ RelV x u ∧ RelV y v
  | _, _, _, .cons r (.cons q .nil) => ⟨_, _, rfl, r, q⟩
theorem Vals.zero : ∀ {us : List Value}, Vals [] us → us = []
  | _, .nil => rfl
theorem Vals.dropLast {xs : List V} {us : List Value} (h : Vals xs us) : Vals xs.dropLast us.dropLast := by
  induction h with
  | nil => exact .nil
  | cons r t ih =>
    cases t with
    | nil => exact .nil
    | cons q t' => exact .cons r ih
theorem Vals.reverse {xs : List V} {us : List Value} (h : Vals xs us) : Vals xs.reverse us.reverse := by
  induction h with
  | nil => exact .nil
  | cons r t ih => rw [List.reverse_cons, List.reverse_cons]; exact Vals.append ih (.cons r .nil)
theorem Vals.rep {xs : List V} {us : List Value} (h : Vals xs us) : ∀ k : Nat, Vals (List.replicate k xs).flatten (List.replicate k us).flatten
  | 0 => .nil
  | k + 1 => by
    rw [List.replicate_succ, List.replicate_succ, List.flatten_cons, List.flatten_cons]
    exact Vals.append h (Vals.rep h k)
section
variable {X : Cx} {pins : List (Addr × Obj)} {σ : St} {H : Hp} {s : Shared} {l b : Addr} {xs ys zs : List V}

/-! ### the two steps: a tracked list is rewritten, a new list is laid -/
theorem Inv.lset {its its' : List Value} {n : Nat} {f : Array Value → Array Value} {t' : Nat} (I : Inv X pins σ H s) (hH : H l = some (.lst xs))
    (e : s.heap.get? l = some { cls := .type "list", data := .seq its.toArray n }) (hf : f its.toArray = its'.toArray) (hv : Vals ys its') (hz : ys.length ≤ sizeLine) :
    Inv X pins σ (upd H l (.lst ys)) { s with heap := s.heap.update l (Obj.mapSeq f), toks := t' } := by
  have q := PySem.IsL.update e f
  rw [hf] at q
  refine I.write (x := l) (e := l) (by rw [hH]; exact trivial) (.inl rfl) (fun b' u hb hu => (Heap.get?_update_other s.heap (Obj.mapSeq f) (Ne.symm hb)).trans hu) ⟨_, q⟩ ?_
  exact ⟨hz, its', _, hv, q⟩
theorem Inv.lnew {its : List Value} {t' : Nat} (I : Inv X pins σ H s) (hv : Vals ys its) (hz : ys.length ≤ sizeLine) :
    Inv X pins σ (upd H s.heap.objs.size (.lst ys)) { s with heap := s.heap.push { cls := .type "list", data := .seq its.toArray }, toks := t' } :=
  I.laid (fun _ _ q => Heap.get?_push_of_some _ q) (Nat.le_refl _) ⟨hz, its, 0, hv, Heap.get?_push_size _ rfl⟩
theorem Inv.fresh (I : Inv X pins σ H s) : H s.heap.objs.size = none := I.hok.fresh (Nat.le_refl _)
theorem Inv.lstM (I : Inv X pins σ H s) (hH : H l = some (.lst xs)) : xs.length ≤ sizeLine ∧ ∃ (its : List Value) (n : Nat), Vals xs its ∧ xs.length = its.length ∧ s.heap.get? l = some { cls := .type "list", data := .seq its.toArray n } := by
  obtain ⟨z, its, n, r, e⟩ := I.hok l _ hH
  exact ⟨z, its, n, r, r.length, e⟩

end

section
variable {X : Cx}

/-! ### methods -/
def rAppend : V → List V → Hp → VK → Prop := fun x vs H Q => ∃ l xs y, x = .ref l ∧ vs = [y] ∧ H l = some (.lst xs) ∧ xs.length < sizeLine ∧ Q .non (upd H l (.lst (xs ++ [y])))
theorem mt_append : MtM X "list.append" rAppend := by
  intro pins s σ H x vs v us Q I rx rv h
  obtain ⟨l, xs, y, rfl, rfl, hH, hz, q⟩ := h
  cases rx
  obtain ⟨u, rfl, ru⟩ := rv.one
  obtain ⟨z, its, n, r, hl, e⟩ := I.lstM hH
  refine call_meets F.slot_list_append ⟨_, e, rfl⟩ F.entry_list_append (F.args_list_append_2 _ _) (PySem.list_append l its.toArray n u (by rw [List.size_toArray]; omega)) ⟨e, ?_⟩
  refine ⟨.non, _, I.lset (its' := its ++ [u]) hH e (by simp) (r.append (.cons ru .nil)) ?_, rfl, q⟩
  rw [List.length_append, List.length_singleton]
  omega

def rClear : V → List V → Hp → VK → Prop := fun x vs H Q => ∃ l xs, x = .ref l ∧ vs = [] ∧ H l = some (.lst xs) ∧ Q .non (upd H l (.lst []))
theorem mt_clear : MtM X "list.clear" rClear := by
  intro pins s σ H x vs v us Q I rx rv h
  obtain ⟨l, xs, rfl, rfl, hH, q⟩ := h
  cases rx
  have hus := rv.zero
  subst hus
  obtain ⟨z, its, n, r, hl, e⟩ := I.lstM hH
  refine call_meets F.slot_list_clear ⟨_, e, rfl⟩ F.entry_list_clear (F.args_list_clear_1 _) (AutoSeq1.list_clear_list_0 l its.toArray n (by rw [List.size_toArray]; omega)) ⟨e, ?_⟩
  exact ⟨.non, _, I.lset (its' := []) (ys := []) hH e rfl .nil (Nat.zero_le _), rfl, q⟩

/-! ### list + list, list += list, list * int -/
def rCat : R2 := fun x y H Q => ∃ l b xs zs, x = .ref l ∧ y = .ref b ∧ H l = some (.lst xs) ∧ H b = some (.lst zs) ∧ xs.length + zs.length ≤ sizeLine ∧ ∀ p, H p = none → Q (.ref p) (upd H p (.lst (xs ++ zs)))
theorem op_cat : OpR X (binaryOp .Add) rCat := by
  intro pins s σ H x y v u Q I rx ry h
  obtain ⟨l, b, xs, zs, rfl, rfl, hH, hB, hz, q⟩ := h
  cases rx
  cases ry
  obtain ⟨z, its, n, r, hl, e⟩ := I.lstM hH
  obtain ⟨z2, its2, n2, r2, hl2, e2⟩ := I.lstM hB
  refine PySem.P.add_list e e2 ?_ (by rw [List.size_toArray, List.size_toArray]; omega)
  have ea : its.toArray ++ its2.toArray = (its ++ its2).toArray := by simp
  rw [ea]
  exact ⟨.ref _, _, I.lnew (t' := s.toks) (r.append r2) (by rw [List.length_append]; omega), rfl, q _ I.fresh⟩
/-! ### del xs[i] -/
end

/-! ### xs[a:b] = ys -/
section
variable {prog : Program} {w : World} {A : Around} {E : Value → Shared → Prop} {s : Shared}
end

section
variable {X : Cx}
end
end L2

namespace Att
open PySem PySem.W PySem.Calls PyProof.Rows

/-! ### the script -/
theorem ints_of_wellAll {P : Params} {h : Heap} : ∀ (ns : List Int) (vs : List Value), WellAll P h vs (ns.map WData.int) → IntsAre vs ns := by
  intro ns
  induction ns with
  | nil =>
    intro vs w
    rw [List.map_nil] at w
    cases w
    exact .nil
  | cons n ns ih =>
    intro vs w
    rw [List.map_cons] at w
    cases w with
    | cons a b =>
      cases a
      exact .cons _ _ (ih _ b)

theorem script_of {l : OpenLaw} {n : Nat} (hn : l.most = some n) {P : Params} {h : Heap} {args : List WData} {vals : List Value}
    (hpre : l.row.toRowW.claim.pre args = true) (hwl : WellAll P h vals args) :
    ∃ a vs ns, vals = [Value.ref a] ∧ args = [WData.list (ns.map WData.int)] ∧ h.get? a = some { cls := .type "list", data := .seq vs.toArray } ∧ IntsAre vs ns ∧ ns.length ≤ n := by
  have hsh : WShape.hasAll [] args [.list .int] = true := (pre_splitW hpre).1
  have hc : l.pre.holds [] { args := args } = true := (pre_splitW hpre).2
  obtain ⟨d, r, rfl, h1, h2⟩ := hasAllW_cons hsh
  obtain rfl := hasAllW_nil h2
  obtain ⟨xs, rfl, h3⟩ := hasW_list h1
  obtain ⟨ns, rfl⟩ := items_int h3
  have hlen : ns.length ≤ n := by
    unfold OpenLaw.pre at hc
    have h4 : (WTm.not (.lt (.lit (.int (n : Int))) (.len (.arg 0)))).holds [] { args := [.list (ns.map .int)] } = true := by
      have h4 := (holds_andW hc).1
      rw [hn] at h4
      exact h4
    have h5 := condW_of h4 (w_not (w_lt w_lit (w_len_list (w_arg rfl))))
    rw [List.length_map] at h5
    refine Nat.le_of_not_lt fun q => ?_
    have q' : (n : Int) < ((ns.length : Nat) : Int) := by omega
    first
      | (rw [decide_eq_true q'] at h5; exact absurd h5 (by decide))
      | (simp at h5; omega)
  cases hwl with
  | cons w1 w2 =>
    cases w2
    cases w1 with
    | list ho hall => exact ⟨_, _, ns, rfl, rfl, ho, ints_of_wellAll ns _ hall, hlen⟩

theorem post_true (l : OpenLaw) (args : List WData) : l.row.toRowW.claim.post args (.bool true) args = true :=
  postW_of (r := l.row.toRowW) (X := (true == true))
    (show WShape.has [] (.bool true) .bool = true by first | rfl | decide | simp [WShape.has, WShape.arms, WShape.armsAll])
    (show (WTm.eq .res (.lit (.bool true))).value [] { args := args, res := some (.bool true), after := args } = some (.bool (true == true)) from w_eq_bool (w_res rfl) w_lit) rfl

/-! ### the attachment: holds_open's last premise (the goal 'hc' behind k_head) from a wpAny of the law's body -/
/-- the same from a codeAny of the CALL (for a layer whose function contracts speak of calls) -/
theorem attach_call {l : OpenLaw} {n : Nat} {q : Program} {loose : List Str} {XP : (Str → Option Value) → Heap → Prop} {YP : World → Heap → Prop} {d : DefRec}
    (hn : l.most = some n) (hdf : d.params.defaults = [])
    (call : ∀ (w : World) (s₀ s₁ : Shared) (mg mb : Str → Option Value) (fa : Addr) (o : Obj) (pm cd doc : Value) (a : Addr) (vs : List Value) (ns : List Int),
      Ground q loose [] XP w s₀ mg mb s₁.heap → YP w s₁.heap →
      s₁.heap.get? fa = some o → o.data = .func (docDef d.name d.params d.body d.scope pm cd doc) → s₁.heap.CodeRec cd d.name → mg d.name = some (.ref fa) →
      s₁.heap.get? a = some { cls := .type "list", data := .seq vs.toArray } → IntsAre vs ns → ns.length ≤ n → s₁.gens = #[] →
      codeAny (model l.prog w) callerA (.call (.ref fa) ⟨[.ref a], []⟩) (fun r s' => r = .ok (.ret (.bool true)) ∧ OldK s₁.heap s'.heap ∧ s'.os = s₁.os ∧ AllBare s'.gens) s₁) :
    WalkO q loose XP YP l.row.toRowW d [] (fun f vs => PySem.call f vs) := by
  intro w s₀ s₁ mg mb G Y fa o pm cd doc dV kV ho hd hcd hD hmg hg args vals as hpre hlay hrd hwl hlo
  obtain rfl : dV = .none := Dflts.none hD hdf
  obtain rfl : kV = .none := Dflts.noKw hD
  obtain ⟨a, vs, ns, rfl, rfl, hobj, hints, hlen⟩ := script_of hn hpre hwl
  refine enter_call (codeAny_mono (call w s₀ s₁ mg mb fa o pm cd doc a vs ns G Y ho (fd_plain hd) hcd hmg hobj hints hlen hg) fun r s' hq => ?_)
  obtain ⟨rfl, h2, h3, h4⟩ := hq
  exact ⟨.inl ⟨.bool true, .bool true, [], rfl, fun _ => rfl, .bool true, post_true l _, fun _ => ⟨List.Pairwise.nil, fun _ hm => (nomatch hm)⟩⟩, h2, h3, h4⟩

/-! ### rules over ANY heap (no ledger) from facts about the written part K: the library's own take a ledger (News) for what they write -/
section
variable {prog : Program} {w : World} {A : Around} {E : Value → Shared → Prop} {s : Shared} {K : Frag}

/-! the whole heap as the ledger: makes every rule that writes through a ledger a rule over any heap -/
def ledger (h : Heap) (L d : Addr) : List (Addr × Obj) := (List.range h.objs.size).filterMap fun a => if a = L ∨ a = d then none else (h.get? a).map fun o => (a, o)
end
end Att

namespace L2
open PySem PySem.Spec PyProof.Rows

theorem vals_ints : ∀ {vs : List Value} {ns : List Int}, IntsAre vs ns → Vals (ns.map V.int) vs
  | _, _, .nil => .nil
  | _, _, .cons n t h => .cons ⟨t, rfl⟩ (vals_ints h)

/-- nothing is tracked but the script, known to the object (or it is an object of the module) -/
def Only (H : Hp) : Prop := ∀ b, H b = none ∨ ∃ o xs, H b = some (.frz o (.lst xs))

/-- THE HEAD: the law's promise, at the heap behind the top. F, the promise of the law's def, may use that base is part of the heap (so K.In base, base.Ns mainGlobals mg stand in Mod) -/
theorem law_call {P : Program} {w : World} {K : PySem.W.Frag} {mg mb : Str → Option Value} {CX : CXT} {k : Nat} {fa a : Addr} {fd : FuncData} {x : Str} {sp : Sp} {s₁ : Shared} {vs : List Value} {ns : List Int}
    (KX : K.In s₁.heap) (hns : s₁.heap.Ns mainGlobals mg) (hb : s₁.heap.Ns builtinsNs mb) (hbb : ∀ x : Str, x ≠ "__name__" → mb x = bootBuiltins x) (hlim : s₁.heap.NoLimit) (hg : s₁.gens = #[])
    (ha : s₁.heap.get? a = some { cls := .type "list", data := .seq vs.toArray }) (hi : IntsAre vs ns) (hl : ns.length ≤ sizeLine) (hr : Room k callerA)
    (F : ∀ base : Heap, K.In base → base.Ns mainGlobals mg → FnOk P w K mg base CX k fa fd [x] sp) (hbind : ∀ (s : Shared) (u : Value), BindsTo s fd ⟨[u], []⟩ [(x, u)])
    (hsp : ∀ H : Hp, Only H → SqL K H a (ns.map V.int) → sp [.ref a] H (fun v _ => v = .bl true) fun _ _ _ => False)
    (hCX : ∀ H e s', CX [] H s₁ (fun _ _ _ => False) e s' → False) :
    codeAny (model P w) callerA (.call (.ref fa) ⟨[.ref a], []⟩) (fun r s' => r = .ok (.ret (.bool true)) ∧ OldK s₁.heap s'.heap ∧ s'.os = s₁.os ∧ AllBare s'.gens) s₁ := by
  have rv := vals_ints hi
  have lenV := hi.length
  -- from an abstract heap in which nothing but the script may be tracked
  have core : ∀ H : Hp, Only H → SqL K H a (ns.map V.int) → HOk P w H s₁.heap → (∀ b, H b ≠ none → b = a) → (H a ≠ none → K.lookup a = none) →
      codeAny (model P w) callerA (.call (.ref fa) ⟨[.ref a], []⟩) (fun r s' => r = .ok (.ret (.bool true)) ∧ OldK s₁.heap s'.heap ∧ s'.os = s₁.os ∧ AllBare s'.gens) s₁ := by
    intro H hO hS hok hA hK
    have base_of : ∀ {b : Addr} {o : Obj}, s₁.heap.get? b = some o → H b = none → (hidT s₁.heap H).get? b = some o := fun e n => hidT_get e n
    have noA : ∀ {b : Addr} {o : Obj} {es : Array DictEntry} {ep : Nat}, s₁.heap.get? b = some o → o.data = .dict es ep → H b = none := fun {b o es ep} e d => by
      cases q : H b with
      | none => rfl
      | some u =>
        have e' : b = a := hA b (by rw [q]; simp)
        subst e'
        rw [ha] at e; cases e
        have d' : Data.seq vs.toArray _ = Data.dict es ep := d
        cases d'
    have nsK : ∀ {b : Addr} {m : Str → Option Value}, s₁.heap.Ns b m → (hidT s₁.heap H).Ns b m := fun {b m} ⟨o, es, ep, e, d, r⟩ => ⟨o, es, ep, base_of e (noA e d), d, r⟩
    have hKb : K.In (hidT s₁.heap H) := fun b o e => base_of (KX b o e) (by
      cases q : H b with
      | none => rfl
      | some u =>
        have e' : b = a := hA b (by rw [q]; simp)
        subst e'
        rw [hK (by rw [q]; simp)] at e; cases e)
    have hM : Mod K mg (hidT s₁.heap H) := ⟨hKb, nsK hns, ⟨mb, nsK hb, hbb⟩, let ⟨mc, h1, h2⟩ := hlim; ⟨mc, nsK h1, h2⟩⟩
    have e0 : Env0 P w K mg (hidT s₁.heap H) callerA [] s₁ H := ⟨rfl, hM, fun b o e => of_hidT e, Nat.le_of_eq (hidT_size _ _), trivial, fun b hb => absurd (show b ∈ ([] : List Addr) from hb) (by simp), hok, .of_eq hg⟩
    refine codeAny_mono ((F _ hKb (nsK hns)).run callerA [] s₁ H ⟨[.ref a], []⟩ [.ref a] [.ref a] _ _ hr e0 (hbind s₁ (.ref a)) (.cons rfl .nil) (hsp H hO hS)) fun r s' h => ?_
    cases r with
    | error e => exact (hCX H e s' h).elim
    | ok fl =>
      cases fl with
      | next => exact False.elim h
      | brk => exact False.elim h
      | cont => exact False.elim h
      | ret u =>
        obtain ⟨v, H', os, bare, un, hok', r', q⟩ := h
        have q' : v = .bl true := q
        subst q'
        obtain rfl : u = Value.bool true := r'
        refine ⟨rfl, OldK.of_keep fun b o e => ?_, os, bare⟩
        cases q : H b with
        | none => exact un.keep b o e q (by intro z; exact absurd (show b ∈ ([] : List Addr) from z) (by simp)) (by simp)
        | some u =>
          rcases hO b with z | ⟨ob, xs, z⟩
          · rw [q] at z; cases z
          · have z2 := un.frzs b ob _ z
            obtain ⟨e1, _⟩ := hok b _ z
            obtain ⟨e2, _⟩ := hok' b _ z2
            rw [e] at e1; cases e1
            exact e2
  cases hk : K.lookup a with
  | some o =>
    -- the script is one of the module's own objects
    have e := KX a o hk
    rw [ha] at e
    cases e
    refine core (fun _ => none) (fun _ => .inl rfl) (.inr ⟨_, vs.toArray, _, hk, rfl, rfl, rfl, by rw [List.size_toArray, lenV]; exact hl, by simpa using rv⟩) (fun b u z => by have z' : (none : Option HO) = some u := z; cases z') (fun b z => absurd rfl z) fun z => absurd rfl z
  | none =>
    refine core (fun b => if b = a then some (.frz { cls := .type "list", data := .seq vs.toArray } (.lst (ns.map V.int))) else none) (fun b => ?_) (.inl (.inr ⟨{ cls := .type "list", data := .seq vs.toArray }, if_pos rfl⟩)) (fun b u z => ?_) (fun b z => ?_) fun _ => hk
    · by_cases hb : b = a
      · exact .inr ⟨_, _, if_pos hb⟩
      · exact .inl (if_neg hb)
    · by_cases hb : b = a
      · have z' := (if_pos hb).symm.trans z
        cases z'
        subst hb
        exact ⟨ha, by rw [List.length_map]; exact hl, vs, _, rv, ha⟩
      · have z' := (if_neg hb).symm.trans z
        cases z'
    · by_cases hb : b = a
      · exact hb
      · exact absurd (if_neg hb) z
end L2

namespace L2
open PySem PySem.Spec PyProof.Rows

/-- the goal that k_head leaves (case hc), from the law's promise. F gives the function object fd (K's own) once, then the promise over every base -/
theorem walk_of {l : PySem.W.OpenLaw} {n k : Nat} {q : Program} {loose : List Str} {XP : (Str → Option Value) → Heap → Prop} {YP : World → Heap → Prop} {d : DefRec} {K : Params → PySem.W.Frag} {CX : World → CXT} {sp : World → Sp} {x : Str}
    (hn : l.most = some n) (hn2 : n ≤ sizeLine) (hdf : d.params.defaults = []) (hr : Room k callerA)
    (hY : ∀ (w : World) (h : Heap), YP w h → (K w.params).In h)
    (F : ∀ (w : World) (mg : Str → Option Value) (fa : Addr) (h : Heap), (K w.params).In h → h.Ns mainGlobals mg → mg d.name = some (.ref fa) →
      ∃ fd : FuncData, (∀ (s : Shared) (u : Value), BindsTo s fd ⟨[u], []⟩ [(x, u)]) ∧
        ∀ base : Heap, (K w.params).In base → base.Ns mainGlobals mg → FnOk l.prog w (K w.params) mg base (CX w) k fa fd [x] (sp w))
    (hsp : ∀ (w : World) (H : Hp) (a : Addr) (ns : List Int), ns.length ≤ n → Only H → SqL (K w.params) H a (ns.map V.int) → sp w [.ref a] H (fun v _ => v = .bl true) fun _ _ _ => False)
    (hCX : ∀ (w : World) (H : Hp) (s : Shared) (e : Value) (s' : Shared), CX w [] H s (fun _ _ _ => False) e s' → False) :
    PySem.W.WalkO q loose XP YP l.row.toRowW d [] (fun f vs => PySem.call f vs) := by
  refine Att.attach_call hn hdf fun w s₀ s₁ mg mb fa o pm cd doc a vs ns G Y ho hd hcd hmg hobj hints hlen hg => ?_
  have KX := hY w _ Y
  obtain ⟨fd, hb, hF⟩ := F w mg fa _ KX G.T.g hmg
  exact law_call KX G.T.g G.T.b G.T.builtins G.T.nolimit hg hobj hints (Nat.le_trans hlen hn2) hr hF hb (fun H hO hS => hsp w H a ns hlen hO hS) fun H e s' => hCX w H s₁ e s'
/-- the same where the promise hangs on the written part alone: (sp := My.sp_law), no hole under a binder -/
theorem walk_ofK {l : PySem.W.OpenLaw} {n k : Nat} {q : Program} {loose : List Str} {XP : (Str → Option Value) → Heap → Prop} {YP : World → Heap → Prop} {d : DefRec} {K : Params → PySem.W.Frag} {CX : CXT} {sp : PySem.W.Frag → Sp} {x : Str}
    (hn : l.most = some n) (hn2 : n ≤ sizeLine) (hdf : d.params.defaults = []) (hr : Room k callerA)
    (hY : ∀ (w : World) (h : Heap), YP w h → (K w.params).In h)
    (F : ∀ (w : World) (mg : Str → Option Value) (fa : Addr) (h : Heap), (K w.params).In h → h.Ns mainGlobals mg → mg d.name = some (.ref fa) →
      ∃ fd : FuncData, (∀ (s : Shared) (u : Value), BindsTo s fd ⟨[u], []⟩ [(x, u)]) ∧
        ∀ base : Heap, (K w.params).In base → base.Ns mainGlobals mg → FnOk l.prog w (K w.params) mg base CX k fa fd [x] (sp (K w.params)))
    (hsp : ∀ (K : PySem.W.Frag) (H : Hp) (a : Addr) (ns : List Int), ns.length ≤ n → Only H → SqL K H a (ns.map V.int) → sp K [.ref a] H (fun v _ => v = .bl true) fun _ _ _ => False)
    (hCX : ∀ (H : Hp) (s : Shared) (e : Value) (s' : Shared), CX [] H s (fun _ _ _ => False) e s' → False) :
    PySem.W.WalkO q loose XP YP l.row.toRowW d [] (fun f vs => PySem.call f vs) :=
  walk_of (K := K) (CX := fun _ => CX) (sp := fun w => sp (K w.params)) hn hn2 hdf hr hY F (fun w H a ns h1 h2 h3 => hsp (K w.params) H a ns h1 h2 h3) fun _ H s e s' => hCX H s e s'
end L2


/-! SHORT WORDS over the layer: a def of the text, its body, what a loop and a test want. -/
namespace L2
open PySem PySem.Spec PyProof.Rows

/-! ### the text by places -/
def defArgs (s : Stmt) : Arguments := match s with
  | .FunctionDef _ a _ _ _ _ _ _ _ _ => a
  | _ => { posonlyargs := [], args := [], vararg := none, kwonlyargs := [], kw_defaults := [], kwarg := none, defaults := [] }
def defBody (s : Stmt) : List Stmt := match s with
  | .FunctionDef _ _ b _ _ _ _ _ _ _ => b
  | _ => []
def defScope (s : Stmt) : Scope := match s with
  | .FunctionDef _ _ _ _ _ _ sc _ _ _ => sc
  | _ => { kind := .function, names := [], isGenerator := false, isCoroutine := false }

/-! ### no exception leaves a def -/
abbrev CX0 : CXT := fun _ _ _ _ _ _ => False
abbrev E0 : XK := fun _ _ _ => False
theorem pass0 {X : Cx} : Passes CX0 X E0 := fun _ _ _ _ _ _ _ h => h.elim

/-! ### a def (or method) of the text as it stands behind the top -/
structure Fun (K : PySem.W.Frag) (x qual : Str) (st : Stmt) (f : Addr) (fd : FuncData) : Prop where
  ex : ∃ (oc : Value) (od : Option Addr) (kV doc pm : Value) (an : Option Addr) (cdv ct : Value) (osl : Array (Option Value)),
    fd = PySem.W.fnOf x qual (defArgs st) (defBody st) (defScope st) .none kV doc pm an cdv ct ∧ K.lookup f = some ⟨oc, od, .func fd, osl⟩ ∧ PySem.W.codeIn K cdv qual = true
  kp : PySem.W.keepIn K (.ref f) = true
section
variable {P : Program} {w : World} {K : PySem.W.Frag} {mg : Str → Option Value} {base : Heap}
/-- THE RULE for a def: its body as a term of rules, and the reading of that term -/
theorem Fun.ok {x qual : Str} {st : Stmt} {f : Addr} {fd : FuncData} {N ps : List Str} {k : Nat} {sp : Sp} (F : Fun K x qual st f fd) (S : FnScope N ps (defScope st)) (len : ∀ vs H Q E, sp vs H Q E → vs.length = ps.length)
    (hbody : ∀ (cdv : Value) (A : Around) (outer : List Env) (s : Shared) (H : Hp) (vs : List V) (Q : VK) (E : XK), Room k (A.deeper (envOfC qual (defScope st) s.heap.objs.size f cdv)) → sp vs H Q E →
      ∃ t, PSs (cxOf CX0 P w K mg base N qual (defScope st) f cdv A outer s H E).nox (defBody st) t ∧ t { nx := fun _ H' => Q .non H', rt := Q } (start N vs) H) : FnOk P w K mg base CX0 (k + 1) f fd ps sp := by
  obtain ⟨oc, od, kV, doc, pm, an, cdv, ct, osl, rfl, lk, hcd⟩ := F.ex
  refine fn_of lk hcd S len fun A outer s H vs Q E hr hsp => ?_
  obtain ⟨t, h, q⟩ := hbody cdv A outer s H vs Q E hr hsp
  exact ⟨t, h.nox, q⟩
/-- how its arguments bind (no defaults): h is «fun _ _ _ _ _ _ us hl => match us, hl with | [_, _], _ => rfl», one _ a parameter -/
theorem Fun.binds {x qual : Str} {st : Stmt} {f : Addr} {fd : FuncData} {ps : List Str} (F : Fun K x qual st f fd)
    (h : ∀ (kV doc pm : Value) (an : Option Addr) (cdv ct : Value) (us : List Value), us.length = ps.length → bindArgs (PySem.W.fnOf x qual (defArgs st) (defBody st) (defScope st) .none kV doc pm an cdv ct) ⟨us, []⟩ = pure (ps.zip us)) : Binds K fd ps [] := by
  obtain ⟨oc, od, kV, doc, pm, an, cdv, ct, osl, rfl, lk, hcd⟩ := F.ex
  exact .all (h kV doc pm an cdv ct)
theorem fun_mk {x qual : Str} {st : Stmt} {f : Addr} {oc : Value} {od an : Option Addr} {osl : Array (Option Value)} {kV doc pm cdv ct : Value} (l : K.lookup f = some ⟨oc, od, .func (PySem.W.fnOf x qual (defArgs st) (defBody st) (defScope st) .none kV doc pm an cdv ct), osl⟩)
    (c : PySem.W.codeIn K cdv qual = true) (k : PySem.W.keepIn K (.ref f) = true) : Fun K x qual st f (PySem.W.fnOf x qual (defArgs st) (defBody st) (defScope st) .none kV doc pm an cdv ct) := ⟨⟨oc, od, kV, doc, pm, an, cdv, ct, osl, rfl, l, c⟩, k⟩
end
theorem small1000 {n : Nat} (h : n ≤ 1000) : n < sizeLine := Nat.lt_of_le_of_lt h (by decide)

/-! ### expressions in short: the name that stands in the i-th slot -/
section
variable {X : Cx}
theorem pv (i : Nat) {x : Str} {pos : Pos} (hN : X.N[i]? = some x := by rfl) (hv : Vis X.env.scope x := by first | exact Or.inl rfl | exact Or.inr (Or.inl rfl) | exact Or.inr (Or.inr rfl)) (hd : (x == ("__debug__" : Str)) = false := by decide)
    (hcd : (x == ("__classdict__" : Str)) = false := by decide) : PE X (.Name x pos) (tVar i) := pe_var hN hv hd hcd
end

/-! ### tests -/
/-! ### heaps -/
/-- all that was tracked is as it was -/
def Same (H H' : Hp) : Prop := ∀ b o, H b = some o → H' b = some o
theorem Same.refl (H : Hp) : Same H H := fun _ _ h => h
theorem Same.trans {H H1 H2 : Hp} (a : Same H H1) (b : Same H1 H2) : Same H H2 := fun c o h => b c o (a c o h)
theorem Same.free {H H' : Hp} (e : Same H H') {l : Addr} (h : H' l = Option.none) : H l = Option.none := by
  cases q : H l with
  | none => rfl
  | some o =>
    rw [e l o q] at h
    cases h
theorem Same.seq {K : PySem.W.Frag} {H H' : Hp} {a : Addr} {xs : List V} (e : Same H H') (h : SqL K H a xs) : SqL K H' a xs := by
  rcases h with (h | ⟨o, h⟩) | h
  · exact .inl (.inl (e _ _ h))
  · exact .inl (.inr ⟨o, e _ _ h⟩)
  · exact .inr h

end L2
namespace L2
open PySem PySem.Spec PyProof.Rows

/-! ### lists of pairs as tables -/
section
variable {κ : Type} [DecidableEq κ]
def valV (kvs : List (κ × V)) (k : κ) : Option V := (kvs.find? fun kv => decide (kv.1 = k)).map (·.2)
/-- in its place, or at the end -/
def putK (kvs : List (κ × V)) (k : κ) (v : V) : List (κ × V) :=
  if (kvs.any fun kv => decide (kv.1 = k)) = true then kvs.map (fun kv => if kv.1 = k then (kv.1, v) else kv) else kvs ++ [(k, v)]
def dropK (kvs : List (κ × V)) (k : κ) : List (κ × V) := kvs.filter fun kv => decide (kv.1 ≠ k)

theorem valV_pos {p : κ × V} {r : List (κ × V)} {k : κ} (e : p.1 = k) : valV (p :: r) k = some p.2 := by simp [valV, List.find?_cons, e]
theorem valV_neg {p : κ × V} {r : List (κ × V)} {k : κ} (e : ¬ p.1 = k) : valV (p :: r) k = valV r k := by simp [valV, List.find?_cons, e]
theorem valV_any (k : κ) : ∀ kvs : List (κ × V), (kvs.any fun kv => decide (kv.1 = k)) = (valV kvs k).isSome
  | [] => rfl
  | p :: r => by
    rw [List.any_cons]
    by_cases e : p.1 = k
    · simp only [valV_pos e, decide_eq_true e, Bool.true_or, Option.isSome_some]
    · rw [valV_neg e, decide_eq_false e, Bool.false_or]; exact valV_any k r
theorem length_putK (kvs : List (κ × V)) (k : κ) (v : V) : (putK kvs k v).length ≤ kvs.length + 1 := by
  unfold putK
  split
  · rw [List.length_map]; omega
  · rw [List.length_append, List.length_cons, List.length_nil]; omega
theorem RelO.isSome_eq {o : Option V} {u : Option Value} (r : RelO o u) : o.isSome = u.isSome := by
  cases o with
  | none => cases u with
    | none => rfl
    | some _ => exact (show False from r).elim
  | some _ => cases u with
    | none => exact (show False from r).elim
    | some _ => rfl
theorem RelO.getD {o : Option V} {u : Option Value} {d : V} {d' : Value} (r : RelO o u) (rd : RelV d d') : RelV (o.getD d) (u.getD d') := by
  cases o with
  | none => cases u with
    | none => exact rd
    | some _ => exact (show False from r).elim
  | some _ => cases u with
    | none => exact (show False from r).elim
    | some _ => exact r

/-- raw tables of the same keys -/
theorem KV.val {kvs : List (κ × V)} {vs : List (κ × Value)} (r : KV kvs vs) (k : κ) : RelO (valV kvs k) (valueAt vs k) := by
  unfold KV at r
  induction r with
  | nil => exact True.intro
  | @cons p q ps qs h t ih =>
    obtain ⟨h1, h2⟩ := h
    by_cases e : p.1 = k
    · have e' : q.1 = k := h1.symm.trans e
      have b : valueAt (q :: qs) k = some q.2 := by simp [valueAt, List.find?_cons, e']
      rw [valV_pos e, b]; exact h2
    · have e' : ¬ q.1 = k := fun z => e (h1.trans z)
      have b : valueAt (q :: qs) k = valueAt qs k := by simp [valueAt, List.find?_cons, e']
      rw [valV_neg e, b]; exact ih
theorem KV.any {kvs : List (κ × V)} {vs : List (κ × Value)} (r : KV kvs vs) (k : κ) : (kvs.any fun kv => decide (kv.1 = k)) = vs.any fun kv => decide (kv.1 = k) := by
  unfold KV at r
  induction r with
  | nil => rfl
  | cons h t ih => rw [List.any_cons, List.any_cons, ih, h.1]
theorem KV.repl {kvs : List (κ × V)} {vs : List (κ × Value)} (r : KV kvs vs) (k : κ) {y : V} {u : Value} (ry : RelV y u) :
    KV (kvs.map fun kv => if kv.1 = k then (kv.1, y) else kv) (vs.map fun kv => if kv.1 = k then (kv.1, u) else kv) := by
  unfold KV at r ⊢
  induction r with
  | nil => exact .nil
  | @cons p q ps qs h t ih =>
    rw [List.map_cons, List.map_cons]
    refine .cons ?_ ih
    obtain ⟨h1, h2⟩ := h
    by_cases e : p.1 = k
    · rw [if_pos e, if_pos (h1.symm.trans e)]; exact ⟨h1, ry⟩
    · rw [if_neg e, if_neg (fun z => e (h1.trans z))]; exact ⟨h1, h2⟩
theorem KV.put {kvs : List (κ × V)} {vs : List (κ × Value)} (r : KV kvs vs) (k : κ) {y : V} {u : Value} (ry : RelV y u) : KV (putK kvs k y) (stored vs k u) := by
  unfold putK stored
  rw [r.any k]
  by_cases e : (vs.any fun kv => decide (kv.1 = k)) = true
  · rw [if_pos e, if_pos e]; exact r.repl k ry
  · rw [if_neg e, if_neg e]; exact Paired.snoc r ⟨rfl, ry⟩
theorem KV.drop {kvs : List (κ × V)} {vs : List (κ × Value)} (r : KV kvs vs) (k : κ) : KV (dropK kvs k) (without vs k) := by
  unfold KV at r ⊢
  unfold dropK without
  induction r with
  | nil => exact .nil
  | @cons p q ps qs h t ih =>
    obtain ⟨h1, h2⟩ := h
    rw [List.filter_cons, List.filter_cons]
    by_cases e : p.1 = k
    · have a : ¬ decide (p.1 ≠ k) = true := by simp [e]
      have b : ¬ decide (q.1 ≠ k) = true := by simp [h1.symm.trans e]
      rw [if_neg a, if_neg b]; exact ih
    · have e' : ¬ q.1 = k := fun z => e (h1.trans z)
      have a : decide (p.1 ≠ k) = true := by simp [e]
      have b : decide (q.1 ≠ k) = true := by simp [e']
      rw [if_pos a, if_pos b]; exact .cons ⟨h1, h2⟩ ih
theorem KV.keys {kvs : List (κ × V)} {vs : List (κ × Value)} (r : KV kvs vs) : kvs.map (·.1) = vs.map (·.1) := by
  unfold KV at r
  induction r with
  | nil => rfl
  | cons h t ih => rw [List.map_cons, List.map_cons, ih, h.1]
theorem KV.length {kvs : List (κ × V)} {vs : List (κ × Value)} (r : KV kvs vs) : kvs.length = vs.length := Paired.length r
end


/-! ### a tracked dict, its keys ints and texts or tuples of these -/
theorem kV_is {P : Program} {w : World} {k : Key} {u : Value} (r : RelV (kV k) u) : (mixKind P w).is k u = true := by
  cases k with
  | inl i => obtain ⟨t, e⟩ := (show ∃ t, u = Value.int i t from r); subst e; exact mixKind_int P w i t
  | inr x => obtain ⟨t, e⟩ := (show ∃ t, u = Value.str x t from r); subst e; exact mixKind_str P w x t
theorem items_are {P : Program} {w : World} : ∀ {ks : List Key} {us : List Value}, Vals (ks.map kV) us → ItemsAre (mixKind P w) ks us
  | [], _, r => by rw [List.map_nil] at r; cases r; exact .nil
  | k :: ks, _, r => by
    rw [List.map_cons] at r
    cases r with
    | cons h t => exact .cons (kV_is h) (items_are t)

/-- raw entries of a dict with tuple keys -/
abbrev KT (H : Hp) : List (List Key × V) → List (List Key × Addr × Value) → Prop := Paired fun p q => p.1 = q.1 ∧ H q.2.1 = some (.tup (p.1.map kV)) ∧ RelV p.2 q.2.2
theorem KT.val {H : Hp} {kvs : List (List Key × V)} {xs : List (List Key × Addr × Value)} (r : KT H kvs xs) (k : List Key) : RelO (valV kvs k) ((atKey xs k).map (·.2)) := by
  induction r with
  | nil => exact True.intro
  | @cons p q ps qs h t ih =>
    obtain ⟨h1, _, h2⟩ := h
    by_cases e : p.1 = k
    · have e' : q.1 = k := h1.symm.trans e
      have b : atKey (q :: qs) k = some q.2 := by simp [atKey, List.find?_cons, e']
      rw [valV_pos e, b]; exact h2
    · have e' : ¬ q.1 = k := fun z => e (h1.trans z)
      have b : atKey (q :: qs) k = atKey qs k := by simp [atKey, List.find?_cons, e']
      rw [valV_neg e, b]; exact ih
theorem KT.repl {H : Hp} {kvs : List (List Key × V)} {xs : List (List Key × Addr × Value)} (r : KT H kvs xs) (k : List Key) {y : V} {u : Value} (ry : RelV y u) :
    KT H (kvs.map fun kv => if kv.1 = k then (kv.1, y) else kv) (xs.map (putAt k u)) := by
  induction r with
  | nil => exact .nil
  | @cons p q ps qs h t ih =>
    rw [List.map_cons, List.map_cons]
    refine .cons ?_ ih
    obtain ⟨h1, h2, h3⟩ := h
    unfold putAt
    by_cases e : p.1 = k
    · rw [if_pos e, if_pos (h1.symm.trans e)]; exact ⟨h1, h2, ry⟩
    · rw [if_neg e, if_neg (fun z => e (h1.trans z))]; exact ⟨h1, h2, h3⟩
theorem KT.put {H : Hp} {kvs : List (List Key × V)} {xs : List (List Key × Addr × Value)} (r : KT H kvs xs) (k : List Key) {b : Addr} {y : V} {u : Value} (hb : H b = some (.tup (k.map kV))) (ry : RelV y u) :
    KT H (putK kvs k y) (storedH xs k b u) := by
  have e : (kvs.any fun kv => decide (kv.1 = k)) = (atKey xs k).isSome := by
    rw [valV_any, (r.val k).isSome_eq, Option.isSome_map]
  unfold putK storedH
  rw [e]
  by_cases q : (atKey xs k).isSome = true
  · rw [if_pos q, if_pos q]; exact r.repl k ry
  · rw [if_neg q, if_neg q]; exact Paired.snoc r ⟨rfl, hb, ry⟩
theorem KT.keeps {H H' : Hp} {kvs : List (List Key × V)} {xs : List (List Key × Addr × Value)} (r : KT H kvs xs) (ht : ∀ b ys, H b = some (.tup ys) → H' b = some (.tup ys)) : KT H' kvs xs :=
  Paired.mapP r fun _ _ z => ⟨z.1, ht _ _ z.2.1, z.2.2⟩

section
variable {P : Program} {w : World} {H : Hp} {h : Heap} {a : Addr}
theorem rd_of {u : HO} (ok : HOk P w H h) (e : Rd H a u) : ObjOk P w H h a u := e.ok ok
theorem dk_rd {kvs : List (Key × V)} (ok : HOk P w H h) (e : Rd H a (.dK kvs)) : kvs.length ≤ sizeLine ∧ (a == sysModules) = false ∧ ∃ vs, KV kvs vs ∧ h.DictOf (mixKind P w) a vs :=
  show ObjOk P w H h a (.dK kvs) from rd_of ok e
theorem dk_of {kvs : List (Key × V)} (ok : HOk P w H h) (e : H a = some (.dK kvs)) : kvs.length ≤ sizeLine ∧ (a == sysModules) = false ∧ ∃ vs, KV kvs vs ∧ h.DictOf (mixKind P w) a vs := dk_rd ok (.inl e)
/-- a tracked tuple of ints and texts is a key -/
theorem key_of {ks : List Key} (ok : HOk P w H h) (e : H a = some (.tup (ks.map kV))) : (tupleKind (mixKind P w)).is h ks a := by
  obtain ⟨_, its, r, o, h1, h2, n, h3⟩ := (show ObjOk P w H h a (.tup (ks.map kV)) from ok a _ e)
  exact ⟨o, its.toArray, n, h1, h2, h3, by simpa using items_are r⟩
theorem dt_rd {kvs : List (List Key × V)} (ok : HOk P w H h) (e : Rd H a (.dT kvs)) : kvs.length ≤ sizeLine ∧ (a == sysModules) = false ∧
    ∃ xs, KT H kvs xs ∧ h.DictOfH (tupleKind (mixKind P w)) a xs := by
  obtain ⟨z, y, xs, r, o, es, ep, h1, h2, h3, h4, h5⟩ := (show ObjOk P w H h a (.dT kvs) from rd_of ok e)
  refine ⟨z, y, xs, r, o, es, ep, h1, h2, h3, h4, fun x hx => ?_, h5⟩
  have all : ∀ {l : List (List Key × V)} {m : List (List Key × Addr × Value)}, KT H l m → ∀ x ∈ m, (tupleKind (mixKind P w)).is h x.1 x.2.1 := by
    intro l m q
    induction q with
    | nil => intro x hx; exact nomatch hx
    | @cons p q ps qs hq t ih =>
      intro x hx
      rcases List.mem_cons.mp hx with e | hx
      · subst e
        exact key_of ok (by rw [← hq.1]; exact hq.2.1)
      · exact ih x hx
  exact all r x hx
theorem dt_of {kvs : List (List Key × V)} (ok : HOk P w H h) (e : H a = some (.dT kvs)) : kvs.length ≤ sizeLine ∧ (a == sysModules) = false ∧
    ∃ xs, KT H kvs xs ∧ h.DictOfH (tupleKind (mixKind P w)) a xs := dt_rd ok (.inl e)
end

/-- what the dict at a holds at the key y -/
def DGet (H : Hp) (a : Addr) (y : V) (r : Option V) : Prop :=
  (∃ kvs k, Rd H a (.dK kvs) ∧ y = kV k ∧ r = valV kvs k) ∨ ∃ kvs k b, Rd H a (.dT kvs) ∧ y = .ref b ∧ H b = some (.tup (k.map kV)) ∧ r = valV kvs k
/-- the heap behind a[y] = v -/
def DPut (H : Hp) (a : Addr) (y v : V) (H' : Hp) : Prop :=
  (∃ kvs k, H a = some (.dK kvs) ∧ y = kV k ∧ kvs.length < sizeLine ∧ H' = upd H a (.dK (putK kvs k v))) ∨
  ∃ kvs k b, H a = some (.dT kvs) ∧ y = .ref b ∧ H b = some (.tup (k.map kV)) ∧ kvs.length < sizeLine ∧ H' = upd H a (.dT (putK kvs k v))
theorem DGet.k {H : Hp} {a : Addr} {kvs : List (Key × V)} {k : Key} (e : H a = some (.dK kvs)) : DGet H a (kV k) (valV kvs k) := .inl ⟨kvs, k, .inl e, rfl, rfl⟩
theorem DGet.t {H : Hp} {a b : Addr} {kvs : List (List Key × V)} {k : List Key} (e : H a = some (.dT kvs)) (eb : H b = some (.tup (k.map kV))) : DGet H a (.ref b) (valV kvs k) := .inr ⟨kvs, k, b, .inl e, rfl, eb, rfl⟩
theorem DPut.k {H : Hp} {a : Addr} {kvs : List (Key × V)} {k : Key} {v : V} (e : H a = some (.dK kvs)) (hl : kvs.length < sizeLine) : DPut H a (kV k) v (upd H a (.dK (putK kvs k v))) := .inl ⟨kvs, k, e, rfl, hl, rfl⟩
theorem DPut.t {H : Hp} {a b : Addr} {kvs : List (List Key × V)} {k : List Key} {v : V} (e : H a = some (.dT kvs)) (eb : H b = some (.tup (k.map kV))) (hl : kvs.length < sizeLine) :
    DPut H a (.ref b) v (upd H a (.dT (putK kvs k v))) := .inr ⟨kvs, k, b, e, rfl, eb, hl, rfl⟩


section
variable {X : Cx} {pins : List (Addr × Obj)} {σ : St} {H : Hp} {s : Shared} {a : Addr} {y v : V} {u r : Value} {o : Option V} {A : Around} {E : Value → Shared → Prop}

theorem Inv.big (I : Inv X pins σ H s) : sysModules < s.heap.objs.size := by
  have h : mainGlobals < s.heap.objs.size := (I.mod.glob.keeps I.bk).lt
  exact Nat.lt_trans (by decide) h

/-- d[y], there -/
theorem d_getItem {Q : Value → Shared → Prop} (hu : A.units + 1 < cLine) (I : Inv X pins σ H s) (g : DGet H a y (some v)) (ry : RelV y u) (h : ∀ w' s', Inv X pins σ H s' → RelV v w' → Q w' s') :
    wpAny (model X.prog X.w) A (getItem (.ref a) u) Q E s := by
  rcases g with ⟨kvs, k, e, ey, l⟩ | ⟨kvs, k, b, e, ey, eb, l⟩
  · subst ey
    obtain ⟨z, hd, vs, rel, dd⟩ := dk_rd I.hok e
    obtain ⟨w', hw, rw'⟩ := RelO.some_of (v := v) (o := valueAt vs k) (by rw [l]; exact rel.val k)
    exact wpAny_getItem_of (kV_is ry) dd.mapOf hw (h w' _ (I.tok _) rw')
  · subst ey
    cases (show u = Value.ref b from ry)
    obtain ⟨z, hd, xs, rel, dd⟩ := dt_rd I.hok e
    obtain ⟨w', hw, rw'⟩ := RelO.some_of (v := v) (o := (atKey xs k).map (·.2)) (by rw [l]; exact rel.val k)
    obtain ⟨p, hp, hp2⟩ := Option.map_eq_some_iff.mp hw
    refine wpAny_getItem_heap (tupleKind_room_in1 hu) (key_of I.hok eb) dd hp ?_
    rw [hp2]
    exact h w' _ (I.tok _) rw'
/-- y in d -/
theorem d_in {Q : Value → Shared → Prop} (hu : A.units + 1 < cLine) (I : Inv X pins σ H s) (g : DGet H a y o) (ry : RelV y u) (h : ∀ s', Inv X pins σ H s' → Q (.bool o.isSome) s') :
    wpAny (model X.prog X.w) A (compareOp .In u (.ref a)) Q E s := by
  rcases g with ⟨kvs, k, e, ey, l⟩ | ⟨kvs, k, b, e, ey, eb, l⟩
  · subst ey
    obtain ⟨z, hd, vs, rel, dd⟩ := dk_rd I.hok e
    refine wpAny_in_of (kV_is ry) hd dd.mapOf ?_
    rw [← (rel.val k).isSome_eq, ← l]
    exact h _ (I.tok _)
  · subst ey
    cases (show u = Value.ref b from ry)
    obtain ⟨z, hd, xs, rel, dd⟩ := dt_rd I.hok e
    refine wpAny_in_heap (tupleKind_room_in1 hu) (key_of I.hok eb) hd dd ?_
    have q := (rel.val k).isSome_eq
    rw [Option.isSome_map] at q
    rw [← q, ← l]
    exact h _ (I.tok _)
theorem d_notIn {Q : Value → Shared → Prop} (hu : A.units + 1 < cLine) (I : Inv X pins σ H s) (g : DGet H a y o) (ry : RelV y u) (h : ∀ s', Inv X pins σ H s' → Q (.bool (!o.isSome)) s') :
    wpAny (model X.prog X.w) A (compareOp .NotIn u (.ref a)) Q E s := by
  rcases g with ⟨kvs, k, e, ey, l⟩ | ⟨kvs, k, b, e, ey, eb, l⟩
  · subst ey
    obtain ⟨z, hd, vs, rel, dd⟩ := dk_rd I.hok e
    refine wpAny_notIn_of (kV_is ry) hd dd.mapOf ?_
    rw [← (rel.val k).isSome_eq, ← l]
    exact h _ (I.tok _)
  · subst ey
    cases (show u = Value.ref b from ry)
    obtain ⟨z, hd, xs, rel, dd⟩ := dt_rd I.hok e
    refine wpAny_notIn_heap (tupleKind_room_in1 hu) (key_of I.hok eb) hd dd ?_
    have q := (rel.val k).isSome_eq
    rw [Option.isSome_map] at q
    rw [← q, ← l]
    exact h _ (I.tok _)
/-- a dict's object is replaced -/
theorem d_write {h' : Heap} {t' : Nat} {ob : HO} (I : Inv X pins σ H s) (mu : Mut (H a)) (hs : Heap.SameBut a s.heap h') (he : ∃ q, h'.get? a = some q) (new : ObjOk X.prog X.w (upd H a ob) h' a ob) :
    Inv X pins σ (upd H a ob) { s with heap := h', toks := t' } :=
  I.write (x := a) (e := a) mu (.inl rfl) (fun b q hb z => (hs.2 b hb).trans z) he new
theorem dk_new {P : Program} {w : World} {H' : Hp} {h' : Heap} {kvs : List (Key × V)} {vs : List (Key × Value)} (z : kvs.length ≤ sizeLine) (hd : (a == sysModules) = false) (rel : KV kvs vs) (dd : h'.DictOf (mixKind P w) a vs) :
    ObjOk P w H' h' a (.dK kvs) := ⟨z, hd, vs, rel, dd⟩
/-- d[y] = v -/
theorem d_setItem {H' : Hp} {Q : Unit → Shared → Prop} (hu : A.units + 1 < cLine) (I : Inv X pins σ H s) (g : DPut H a y v H') (ry : RelV y u) (rv : RelV v r) (h : ∀ s', Inv X pins σ H' s' → Q () s') :
    wpAny (model X.prog X.w) A (setItem (.ref a) u r) Q E s := by
  rcases g with ⟨kvs, k, e, ey, l, eH⟩ | ⟨kvs, k, b, e, ey, eb, l, eH⟩
  · subst ey eH
    obtain ⟨z, hd, vs, rel, dd⟩ := dk_of I.hok e
    have hz : vs.length ≤ sizeLine := by rw [← rel.length]; exact z
    have hl : (putK kvs k v).length ≤ sizeLine := by have := length_putK kvs k v; omega
    refine wpAny_setItem_pairs (hsz := hz) (kV_is ry) dd fun h' dd' hs => h _ ?_
    have he : ∃ q, h'.get? a = some q := let ⟨q, _, _, hq, _⟩ := dd'; ⟨q, hq⟩
    exact d_write I (by rw [e]; exact True.intro) hs he (dk_new hl hd (rel.put k rv) dd')
  · subst ey eH
    cases (show u = Value.ref b from ry)
    obtain ⟨z, hd, xs, rel, dd⟩ := dt_of I.hok e
    have hz : xs.length ≤ sizeLine := by rw [← Paired.length rel]; exact z
    have hl : (putK kvs k v).length ≤ sizeLine := by have := length_putK kvs k v; omega
    refine wpAny_setItem_heap (hsz := hz) (tupleKind_room_in1 hu) (key_of I.hok eb) dd fun h' dd' hs => h _ ?_
    obtain ⟨q, es, ep, hq, h2, h3, h4, _, h5⟩ := dd'
    refine d_write I (by rw [e]; exact True.intro) hs ⟨q, hq⟩ ⟨hl, hd, _, (rel.put k eb rv).keeps fun c ys ec => ?_, q, es, ep, hq, h2, h3, h4, h5⟩
    rw [upd_ne (ne_of ec e (fun z => nomatch z))]
    exact ec
end

section
variable {X : Cx} {pins : List (Addr × Obj)} {σ : St} {H : Hp} {s : Shared} {a : Addr} {kvs : List (Key × V)} {k : Key} {u : Value} {A : Around} {E : Value → Shared → Prop}
end


/-! ### readings and rules -/
/-- the element of a subscription, not a slice -/
def NoSl (i : Expr) : Prop := ∀ ov iv, subscripted i false ov iv = operate [ov, iv] (getItem ov iv)
theorem subD_of {prog : Program} {w : World} {A : Around} {E : Value → Shared → Prop} {s : Shared} {env : Env} {value slice : Expr} {pos : Pos} {T id : String} {Q : Value → Shared → Prop}
    (hl : typeLookup (.type T) "__getitem__" = pure (some (.builtin id))) (hs : NoSl slice)
    (h : wpAny (model prog w) A (eval value env) (fun o s₁ => wpAny (model prog w) A (eval slice env) (fun i s₂ => s₂.TypeIs o T ∧ wpAny (model prog w) A (getItem o i) Q E s₂) E s₁) E s) :
    wpAny (model prog w) A (eval (.Subscript value slice pos) env) Q E s := by
  refine Subscript_ (wpAny_mono h (fun o s₁ h₁ => wpAny_mono h₁ (fun i s₂ h₂ => ?_) fun _ _ x => x) fun _ _ x => x)
  obtain ⟨hT, h₂⟩ := h₂
  unfold subscriptTail
  refine wpAny_bind ?_
  rw [getitemInPython_of_ne hT.not_modules]
  refine wpAny_bind (wpAny_specialOf hT hl ?_)
  have fin : wpAny (model prog w) A (subscripted slice false o i) (fun r s₃ => wpAny (model prog w) A (letTemporaryGo value o r >>= fun _ => pure r) Q E s₃) E s₂ := by
    rw [hs o i]
    exact wpAny_operating (wpAny_mono h₂ (fun r s₃ h₃ => wpAny_bind (wpAny_letTemporaryGo (wpAny_pure h₃))) fun _ _ x => x)
  first
    | exact wpAny_pure (wpAny_bind fin)
    | exact wpAny_bind (wpAny_pure (wpAny_bind fin))
    | exact wpAny_bind fin

theorem dict_typeIs {X : Cx} {pins : List (Addr × Obj)} {σ : St} {H : Hp} {s : Shared} {a : Addr} {y : V} {o : Option V} (I : Inv X pins σ H s) (g : DGet H a y o) : s.TypeIs (.ref a) "dict" := by
  rcases g with ⟨kvs, k, e, _, _⟩ | ⟨kvs, k, b, e, _, _, _⟩
  · obtain ⟨_, _, vs, _, dd⟩ := dk_rd I.hok e
    exact dd.typeIs
  · obtain ⟨_, _, xs, _, dd⟩ := dt_rd I.hok e
    exact dd.typeIs
/-- d[y] -/
def tDGet (td ty : TE) : TE := fun σ H Q => td σ H fun x H1 => ty σ H1 fun y H2 => ∃ a v, x = .ref a ∧ DGet H2 a y (some v) ∧ Q v H2
/-- d[y] = v -/
def sDPut (td ty tv : TE) : TS := fun D σ H => tv σ H fun v H1 => td σ H1 fun x H2 => ty σ H2 fun y H3 => ∃ a H4, x = .ref a ∧ DPut H3 a y v H4 ∧ D.nx σ H4
section
variable {X : Cx} {o i e value : Expr} {pos pos' tpos : Pos} {td ty tv : TE}
theorem pe_dget (hu : X.A.units + 1 < cLine) (ho : PE X o td) (hi : PE X i ty) (hs : NoSl i) : PE X (.Subscript o i pos) (tDGet td ty) := by
  intro pins s σ H Q I h
  refine subD_of PySem.F.slot_dict_getitem.lookup hs (thn (ho pins s σ H _ I h) fun u s1 ⟨x, H1, I1, rx, q1⟩ => thn (hi pins s1 σ H1 _ I1 q1) fun iv s2 ⟨y, H2, I2, ry, a, v, ex, g, q2⟩ => ?_)
  subst ex
  obtain rfl : u = Value.ref a := rx
  exact ⟨dict_typeIs I2 g, d_getItem hu I2 g ry fun w' s3 I3 rw' => ⟨v, H2, I3, rw', q2⟩⟩
theorem ps_dput (hu : X.A.units + 1 < cLine) (ho : PE X o td) (hi : PE X i ty) (hv : PE X value tv) (hs : swapsWith value (some (.Subscript o i pos')) pos.line X.env = pure false) :
    PS X (.Assign [.Subscript o i pos'] value pos) (sDPut td ty tv) := by
  intro pins s σ H D I h
  refine wpAny_Assign_Subscript (thn (hv pins s σ H _ I h) fun r s1 ⟨v, H1, I1, rv, q1⟩ => thn (ho pins s1 σ H1 _ I1 q1) fun u s2 ⟨x, H2, I2, rx, q2⟩ => thn (hi pins s2 σ H2 _ I2 q2) fun iv s3 ⟨y, H3, I3, ry, a, H4, ex, g, q3⟩ => ?_) hs
  subst ex
  obtain rfl : u = Value.ref a := rx
  exact d_setItem hu I3 g ry rv fun s4 I4 => ⟨σ, H4, I4, q3⟩
end


/-! ### displays -/
theorem dt_empty {P : Program} {w : World} {H : Hp} (h : Heap) (hb : sysModules < h.objs.size) : ObjOk P w H (h.push { cls := .type "dict", data := .dict #[] }) h.objs.size (.dT []) :=
  ⟨Nat.zero_le _, beq_eq_false_iff_ne.mpr (Ne.symm (Nat.ne_of_lt hb)), [], .nil, _, #[], 0, Heap.get?_push_size _ rfl, ⟨rfl, rfl, rfl⟩, rfl, rfl, List.nodup_nil⟩
def tDNewT : TE := fun _ H Q => ∀ p, H p = none → Q (.ref p) (upd H p (.dT []))
section
variable {X : Cx} {pos : Pos}
theorem pe_dnewT : PE X (.Dict [] [] pos) tDNewT := fun pins s σ H Q I h =>
  wpAny_Dict_empty ⟨.ref s.heap.objs.size, _, I.laid (a := s.heap.objs.size) (o := .dT []) (t' := s.toks) (fun _ _ q => Heap.get?_push_of_some _ q) (Nat.le_refl _) (dt_empty s.heap I.big), rfl, h _ (I.hok.fresh (Nat.le_refl _))⟩
end

/-! ### methods -/
/-- a method call o.m(e) of a built-in, with one argument: what must be seen of the text -/
structure M1 (X : Cx) (o : Expr) (m : Str) (apos : Pos) (e : Expr) (cpos : Pos) : Prop where
  base : attributeBase o m X.env (eval o X.env) = eval o X.env
  few : ((backTo cpos (starEach [e] X.env)).all (fun x => !x.1) && (backToKw cpos (keywordEach [] X.env)).all (fun x => x.1.isSome)
    && decide (([e] : List Expr).length + ([] : List Keyword).length + (if ([] : List Keyword).isEmpty then 0 else 1) < 30)) = true
  line : (apos.endLine == cpos.line) = true
  trees : backTo cpos (starEach [e] X.env) = [(false, eval e X.env)]
structure M2 (X : Cx) (o : Expr) (m : Str) (apos : Pos) (e f : Expr) (cpos : Pos) : Prop where
  base : attributeBase o m X.env (eval o X.env) = eval o X.env
  few : ((backTo cpos (starEach [e, f] X.env)).all (fun x => !x.1) && (backToKw cpos (keywordEach [] X.env)).all (fun x => x.1.isSome)
    && decide (([e, f] : List Expr).length + ([] : List Keyword).length + (if ([] : List Keyword).isEmpty then 0 else 1) < 30)) = true
  line : (apos.endLine == cpos.line) = true
  trees : backTo cpos (starEach [e, f] X.env) = [(false, eval e X.env), (false, eval f X.env)]

section
variable {X : Cx} {pins : List (Addr × Obj)} {σ : St} {H : Hp} {s : Shared} {a : Addr} {y d : V} {u r : Value} {o : Option V} {A : Around} {E : Value → Shared → Prop}
end

section
variable {X : Cx} {o e f : Expr} {apos cpos : Pos} {td ty tx : TE}
end

/-! ### dict(d): a copy -/
section
variable {X : Cx} {pins : List (Addr × Obj)} {σ : St} {H : Hp} {s : Shared} {a : Addr} {kvs : List (Key × V)} {A : Around} {E : Value → Shared → Prop}
end


section
variable {X : Cx} {pins : List (Addr × Obj)} {σ : St} {H : Hp} {s : Shared} {a : Addr} {y : V} {u : Value} {A : Around} {E : Value → Shared → Prop}
end
end L2
namespace L3
open PySem PySem.Spec PyProof.Rows L2
/-! ### data: tuples (and frozen lists) are values, lists and dicts stand in the heap -/
abbrev St := L2.St
inductive D where
  | non | bl (b : Bool) | int (i : Int) | str (x : Str) | tup (ds : List D) | fl (ds : List D) | ref (a : Addr) | ty (n : String) | ktup (ds : List D)

/-- a list that nobody changes: the script, or one of the module's -/
def FzL (K : PySem.W.Frag) (H : Hp) (a : Addr) (xs : List V) : Prop :=
  (∃ o, H a = some (.frz o (.lst xs))) ∨
    ∃ (o : Obj) (its : Array Value) (n : Nat), K.lookup a = some o ∧ o.cls = .type "list" ∧ o.dict = none ∧ o.data = .seq its n ∧ its.size ≤ sizeLine ∧ Vals xs its.toList
theorem FzL.sq {K : PySem.W.Frag} {H : Hp} {a : Addr} {xs : List V} (h : FzL K H a xs) : SqL K H a xs := by
  rcases h with ⟨o, h⟩ | h
  · exact .inl (.inr ⟨o, h⟩)
  · exact .inr h

/-- a tuple of the module's -/
def KTp (K : PySem.W.Frag) (a : Addr) (xs : List V) : Prop := ∃ (o : Obj) (its : Array Value) (n : Nat), K.lookup a = some o ∧ o.cls = .type "tuple" ∧ o.data = .seq its n ∧ its.size ≤ sizeLine ∧ Vals xs its.toList
theorem KTp.sq {K : PySem.W.Frag} {H : Hp} {a : Addr} {xs : List V} (h : KTp K a xs) : SqT K H a xs := .inr h

mutual
inductive Rep (K : PySem.W.Frag) (H : Hp) : D → V → Prop
  | non : Rep K H .non .non
  | bl (b : Bool) : Rep K H (.bl b) (.bl b)
  | int (i : Int) : Rep K H (.int i) (.int i)
  | str (x : Str) : Rep K H (.str x) (.str x)
  | ty (n : String) : Rep K H (.ty n) (.ty n)
  | ref (a : Addr) : Rep K H (.ref a) (.ref a)
  | tup {a : Addr} {xs : List V} {ds : List D} : H a = some (.tup xs) → RepL K H ds xs → Rep K H (.tup ds) (.ref a)
  | fl {a : Addr} {xs : List V} {ds : List D} : FzL K H a xs → RepL K H ds xs → Rep K H (.fl ds) (.ref a)
  | ktup {a : Addr} {xs : List V} {ds : List D} : KTp K a xs → RepL K H ds xs → Rep K H (.ktup ds) (.ref a)
inductive RepL (K : PySem.W.Frag) (H : Hp) : List D → List V → Prop
  | nil : RepL K H [] []
  | cons {d : D} {v : V} {ds : List D} {vs : List V} : Rep K H d v → RepL K H ds vs → RepL K H (d :: ds) (v :: vs)
end

/-- tuples and frozen things are kept -/
structure TK (H H' : Hp) : Prop where
  tup : ∀ a xs, H a = some (.tup xs) → H' a = some (.tup xs)
  frz : ∀ a o u, H a = some (.frz o u) → H' a = some (.frz o u)
theorem TK.refl {H : Hp} : TK H H := ⟨fun _ _ h => h, fun _ _ _ h => h⟩
theorem TK.trans {H H1 H2 : Hp} (a : TK H H1) (b : TK H1 H2) : TK H H2 := ⟨fun c xs h => b.tup c xs (a.tup c xs h), fun c o u h => b.frz c o u (a.frz c o u h)⟩
theorem TK.fresh {H : Hp} {p : Addr} {o : HO} (n : H p = none) : TK H (upd H p o) :=
  ⟨fun a xs h => by rw [upd_ne (ne_of_none h n)]; exact h, fun a o' u h => by rw [upd_ne (ne_of_none h n)]; exact h⟩
theorem TK.lst {H : Hp} {p : Addr} {o : HO} {xs : List V} (n : H p = some (.lst xs)) : TK H (upd H p o) :=
  ⟨fun a ys h => by rw [upd_ne (ne_of h n (by intro z; cases z))]; exact h, fun a o' u h => by rw [upd_ne (ne_of h n (by intro z; cases z))]; exact h⟩
theorem TK.dT {H : Hp} {p : Addr} {o : HO} {xs : List (List Key × V)} (n : H p = some (.dT xs)) : TK H (upd H p o) :=
  ⟨fun a ys h => by rw [upd_ne (ne_of h n (by intro z; cases z))]; exact h, fun a o' u h => by rw [upd_ne (ne_of h n (by intro z; cases z))]; exact h⟩
theorem TK.ins {H : Hp} {p C dx : Addr} {o : HO} {xs : List (Str × V)} (n : H p = some (.ins C dx xs)) : TK H (upd H p o) :=
  ⟨fun a ys h => by rw [upd_ne (ne_of h n (by intro z; cases z))]; exact h, fun a o' u h => by rw [upd_ne (ne_of h n (by intro z; cases z))]; exact h⟩
theorem TK.sqT {K : PySem.W.Frag} {H H' : Hp} (t : TK H H') {a : Addr} {xs : List V} (h : SqT K H a xs) : SqT K H' a xs := by
  rcases h with (h | ⟨o, h⟩) | h
  · exact .inl (.inl (t.tup _ _ h))
  · exact .inl (.inr ⟨o, t.frz _ _ _ h⟩)
  · exact .inr h
theorem TK.fzL {K : PySem.W.Frag} {H H' : Hp} (t : TK H H') {a : Addr} {xs : List V} (h : FzL K H a xs) : FzL K H' a xs := by
  rcases h with ⟨o, h⟩ | h
  · exact .inl ⟨o, t.frz _ _ _ h⟩
  · exact .inr h
mutual
theorem Rep.mono {K : PySem.W.Frag} {H H' : Hp} (t : TK H H') : ∀ {d : D} {v : V}, Rep K H d v → Rep K H' d v
  | _, _, .non => .non
  | _, _, .bl b => .bl b
  | _, _, .int i => .int i
  | _, _, .str x => .str x
  | _, _, .ty n => .ty n
  | _, _, .ref a => .ref a
  | _, _, .tup h r => .tup (t.tup _ _ h) (RepL.mono t r)
  | _, _, .fl h r => .fl (t.fzL h) (RepL.mono t r)
  | _, _, .ktup h r => .ktup h (RepL.mono t r)
theorem RepL.mono {K : PySem.W.Frag} {H H' : Hp} (t : TK H H') : ∀ {ds : List D} {vs : List V}, RepL K H ds vs → RepL K H' ds vs
  | _, _, .nil => .nil
  | _, _, .cons r s => .cons (Rep.mono t r) (RepL.mono t s)
end
section
variable {K : PySem.W.Frag} {H : Hp}
theorem RepL.length : ∀ {ds : List D} {vs : List V}, RepL K H ds vs → ds.length = vs.length
  | _, _, .nil => rfl
  | _, _, .cons _ s => by simp [RepL.length s]
theorem RepL.get : ∀ {ds : List D} {vs : List V} {i : Nat} {d : D}, RepL K H ds vs → ds[i]? = some d → ∃ v, vs[i]? = some v ∧ Rep K H d v
  | _, _, _, _, .nil, e => by simp at e
  | _, _, 0, _, .cons r _, e => by simp at e; subst e; exact ⟨_, rfl, r⟩
  | _, _, i + 1, d, .cons _ t, e => by
    obtain ⟨u, h1, h2⟩ := RepL.get (i := i) (d := d) t (by simpa using e)
    exact ⟨u, by simpa using h1, h2⟩
theorem RepL.getV : ∀ {ds : List D} {vs : List V} {i : Nat} {v : V}, RepL K H ds vs → vs[i]? = some v → ∃ d, ds[i]? = some d ∧ Rep K H d v
  | _, _, _, _, .nil, e => by simp at e
  | _, _, 0, _, .cons r _, e => by simp at e; subst e; exact ⟨_, rfl, r⟩
  | _, _, i + 1, v, .cons _ t, e => by
    obtain ⟨u, h1, h2⟩ := RepL.getV (i := i) (v := v) t (by simpa using e)
    exact ⟨u, by simpa using h1, h2⟩
theorem RepL.append : ∀ {ds es : List D} {vs us : List V}, RepL K H ds vs → RepL K H es us → RepL K H (ds ++ es) (vs ++ us)
  | _, _, _, _, .nil, s => s
  | _, _, _, _, .cons r t, s => .cons r (RepL.append t s)
theorem RepL.take : ∀ {ds : List D} {vs : List V} (n : Nat), RepL K H ds vs → RepL K H (ds.take n) (vs.take n)
  | _, _, 0, _ => .nil
  | _, _, _ + 1, .nil => .nil
  | _, _, n + 1, .cons r t => .cons r (RepL.take n t)
theorem RepL.drop : ∀ {ds : List D} {vs : List V} (n : Nat), RepL K H ds vs → RepL K H (ds.drop n) (vs.drop n)
  | _, _, 0, r => r
  | _, _, _ + 1, .nil => .nil
  | _, _, n + 1, .cons _ t => RepL.drop n t
theorem RepL.snoc {ds : List D} {vs : List V} {d : D} {v : V} (r : RepL K H ds vs) (s : Rep K H d v) : RepL K H (ds ++ [d]) (vs ++ [v]) := r.append (.cons s .nil)
theorem RepL.dropLast {ds : List D} {vs : List V} (r : RepL K H ds vs) : RepL K H ds.dropLast vs.dropLast := by
  rw [List.dropLast_eq_take, List.dropLast_eq_take, ← r.length]; exact r.take _
theorem RepL.ints : ∀ (ns : List Int), RepL K H (ns.map D.int) (ns.map V.int)
  | [] => .nil
  | n :: ns => .cons (.int n) (RepL.ints ns)
/-- ints are what they are -/
theorem RepL.ints_inv : ∀ {ns : List Int} {vs : List V}, RepL K H (ns.map D.int) vs → vs = ns.map V.int
  | [], _, .nil => rfl
  | _ :: ns, _, .cons (.int _) t => by rw [List.map_cons, RepL.ints_inv (ns := ns) t]
end

/-! ### the heap -/
inductive O3 where
  | lst (ds : List D)
  /-- a dict keyed by tuples of ints and texts -/
  | dic (kvs : List (List Key × D))
  /-- an instance of the class of that name -/
  | ins (c : Str) (fs : List (Str × D))
  /-- an exception of the class of that name -/
  | exc (c : Str)
abbrev Hp3 := Addr → Option O3
def upd3 (H : Hp3) (a : Addr) (o : O3) : Hp3 := fun b => if b = a then some o else H b
theorem upd3_same {H : Hp3} {a : Addr} {o : O3} : upd3 H a o a = some o := by unfold upd3; rw [if_pos rfl]
theorem upd3_ne {H : Hp3} {a b : Addr} {o : O3} (h : b ≠ a) : upd3 H a o b = H b := by unfold upd3; rw [if_neg h]
theorem upd3_upd3 {H : Hp3} {a : Addr} {o u : O3} : upd3 (upd3 H a o) a u = upd3 H a u := by
  funext b; unfold upd3; split <;> rfl
theorem ne3 {H : Hp3} {a b : Addr} {o : O3} (h : H a = some o) (h' : H b = none) : a ≠ b := by
  intro e; subst e; rw [h] at h'; cases h'
def excO (a C : Addr) : HO := .ext fun h => ∃ o vs, h.get? a = some o ∧ o.cls = .ref C ∧ o.data = .fields vs
def OR (K : PySem.W.Frag) (H : Hp) (a : Addr) : O3 → Prop
  | .lst ds => ∃ xs, H a = some (.lst xs) ∧ RepL K H ds xs
  | .dic kvs => ∃ ks, H a = some (.dT ks) ∧ Paired (fun (p : List Key × D) (q : List Key × V) => p.1 = q.1 ∧ Rep K H p.2 q.2) kvs ks
  | .ins c fs => ∃ C dx xs, PySem.W.nsIn K mainGlobals c = some (some (.ref C)) ∧ H a = some (.ins C dx xs) ∧ Paired (fun (p : Str × D) (q : Str × V) => p.1 = q.1 ∧ Rep K H p.2 q.2) fs xs
  | .exc c => ∃ C, PySem.W.nsIn K mainGlobals c = some (some (.ref C)) ∧ H a = some (excO a C)
def HR (K : PySem.W.Frag) (H3 : Hp3) (H : Hp) : Prop := ∀ a o, H3 a = some o → OR K H a o
/-- part of a heap -/
def Sub3 (H H' : Hp3) : Prop := ∀ a o, H a = some o → H' a = some o
theorem Sub3.refl {H : Hp3} : Sub3 H H := fun _ _ h => h
theorem Sub3.trans {H H1 H2 : Hp3} (a : Sub3 H H1) (b : Sub3 H1 H2) : Sub3 H H2 := fun c o h => b c o (a c o h)
theorem Sub3.fresh {H : Hp3} {p : Addr} {o : O3} (n : H p = none) : Sub3 H (upd3 H p o) := fun a u h => by rw [upd3_ne (ne3 h n)]; exact h
theorem Sub3.upd {H H' : Hp3} {p : Addr} {o : O3} (s : Sub3 H H') (n : H p = none) : Sub3 H (upd3 H' p o) := fun a u h => by rw [upd3_ne (ne3 h n)]; exact s a u h
section
variable {K : PySem.W.Frag} {H H' : Hp} {H3 H3' : Hp3}
theorem HR.sub (h : HR K H3' H) (s : Sub3 H3 H3') : HR K H3 H := fun a o e => h a o (s a o e)
theorem HR.fresh (h : HR K H3 H) {p : Addr} (n : H p = none) : H3 p = none := by
  cases e : H3 p with
  | none => rfl
  | some o =>
    cases o with
    | lst ds => obtain ⟨xs, q, _⟩ := h p _ e; rw [n] at q; cases q
    | dic ks => obtain ⟨xs, q, _⟩ := h p _ e; rw [n] at q; cases q
    | ins c fs => obtain ⟨C, dx, xs, _, q, _⟩ := h p _ e; rw [n] at q; cases q
    | exc c => obtain ⟨C, _, q⟩ := h p _ e; rw [n] at q; cases q
theorem OR.keep {a : Addr} {o : O3} (x : OR K H a o) (t : TK H H') (e : H' a = H a) : OR K H' a o := by
  cases o with
  | lst ds => obtain ⟨xs, q, r⟩ := x; exact ⟨xs, e.trans q, r.mono t⟩
  | dic ks => obtain ⟨xs, q, r⟩ := x; exact ⟨xs, e.trans q, Paired.mapP r fun _ _ z => ⟨z.1, z.2.mono t⟩⟩
  | ins c fs => obtain ⟨C, dx, xs, g, q, r⟩ := x; exact ⟨C, dx, xs, g, e.trans q, Paired.mapP r fun _ _ z => ⟨z.1, z.2.mono t⟩⟩
  | exc c => obtain ⟨C, g, q⟩ := x; exact ⟨C, g, e.trans q⟩
theorem HR.set (h : HR K H3 H) {p : Addr} {o : HO} {o3 : O3} (t : TK H (upd H p o)) (new : OR K (upd H p o) p o3) : HR K (upd3 H3 p o3) (upd H p o) := fun b u e => by
  by_cases hb : b = p
  · subst hb; rw [upd3_same] at e; cases e; exact new
  · rw [upd3_ne hb] at e; exact (h b u e).keep t (upd_ne hb)
theorem HR.setL (h : HR K H3 H) {p : Addr} {xs : List V} {ds : List D} (t : TK H (upd H p (.lst xs))) (r : RepL K (upd H p (.lst xs)) ds xs) : HR K (upd3 H3 p (.lst ds)) (upd H p (.lst xs)) := h.set (o3 := .lst ds) t ⟨xs, upd_same, r⟩
theorem HR.tup (h : HR K H3 H) {p : Addr} {xs : List V} (n : H p = none) : HR K H3 (upd H p (.tup xs)) := fun b u e => by
  have hb : b ≠ p := ne3 e (h.fresh n)
  exact (h b u e).keep (TK.fresh n) (upd_ne hb)
end

/-! ### states, readings -/
abbrev St3 := List (Option D)
abbrev VK3 := D → Hp3 → Prop
abbrev TE3 := St3 → Hp3 → VK3 → Prop
abbrev TT3 := St3 → Hp3 → (Bool → Hp3 → Prop) → Prop
abbrev TA3 := St3 → Hp3 → (List D → Hp3 → Prop) → Prop
structure Ends3 where
  nx : St3 → Hp3 → Prop
  rt : VK3
  bk : St3 → Hp3 → Prop := fun _ _ => False
  ct : St3 → Hp3 → Prop := fun _ _ => False
abbrev TS3 := Ends3 → St3 → Hp3 → Prop
structure SR (K : PySem.W.Frag) (H : Hp) (σ3 : St3) (σ : St) : Prop where
  len : σ3.length = σ.length
  get : ∀ (i : Nat) (d : D), σ3[i]? = some (some d) → ∃ v, σ[i]? = some (some v) ∧ Rep K H d v
theorem SR.mono {K : PySem.W.Frag} {H H' : Hp} {σ3 : St3} {σ : St} (s : SR K H σ3 σ) (t : TK H H') : SR K H' σ3 σ :=
  ⟨s.len, fun i d e => let ⟨v, h1, h2⟩ := s.get i d e; ⟨v, h1, h2.mono t⟩⟩
theorem SR.set {K : PySem.W.Frag} {H : Hp} {σ3 : St3} {σ : St} (s : SR K H σ3 σ) (i : Nat) {d : D} {v : V} (r : Rep K H d v) : SR K H (σ3.set i (some d)) (σ.set i (some v)) := by
  refine ⟨by simp [s.len], fun j e h => ?_⟩
  by_cases hj : j = i
  · subst hj
    by_cases hl : j < σ3.length
    · rw [List.getElem?_set_self hl] at h
      cases h
      exact ⟨v, by rw [List.getElem?_set_self (by rw [← s.len]; exact hl)], r⟩
    · rw [List.getElem?_eq_none (by simpa using hl)] at h; cases h
  · rw [List.getElem?_set_ne (Ne.symm hj)] at h
    obtain ⟨u, h1, h2⟩ := s.get j e h
    exact ⟨u, by rw [List.getElem?_set_ne (Ne.symm hj)]; exact h1, h2⟩
def KE (K : PySem.W.Frag) (H : Hp) (Q3 : VK3) (Q : VK) : Prop := ∀ d v H3' H', TK H H' → HR K H3' H' → Rep K H' d v → Q3 d H3' → Q v H'
def KT (K : PySem.W.Frag) (H : Hp) (Q3 : Bool → Hp3 → Prop) (Q : Bool → Hp → Prop) : Prop := ∀ b H3' H', TK H H' → HR K H3' H' → Q3 b H3' → Q b H'
def KA (K : PySem.W.Frag) (H : Hp) (Q3 : List D → Hp3 → Prop) (Q : List V → Hp → Prop) : Prop := ∀ ds vs H3' H', TK H H' → HR K H3' H' → RepL K H' ds vs → Q3 ds H3' → Q vs H'
def KN (K : PySem.W.Frag) (H : Hp) (Q3 : St3 → Hp3 → Prop) (Q : St → Hp → Prop) : Prop := ∀ σ3 σ H3' H', TK H H' → SR K H' σ3 σ → HR K H3' H' → Q3 σ3 H3' → Q σ H'
structure KS (K : PySem.W.Frag) (H : Hp) (D3 : Ends3) (D : Ends) : Prop where
  nx : KN K H D3.nx D.nx
  rt : KE K H D3.rt D.rt
  bk : KN K H D3.bk D.bk
  ct : KN K H D3.ct D.ct
theorem KE.mono {K : PySem.W.Frag} {H H1 : Hp} {Q3 : VK3} {Q : VK} (k : KE K H Q3 Q) (t : TK H H1) : KE K H1 Q3 Q := fun d v H3 H' t' => k d v H3 H' (t.trans t')
theorem KN.mono {K : PySem.W.Frag} {H H1 : Hp} {Q3 : St3 → Hp3 → Prop} {Q : St → Hp → Prop} (k : KN K H Q3 Q) (t : TK H H1) : KN K H1 Q3 Q := fun d v H3 H' t' => k d v H3 H' (t.trans t')
theorem KS.mono {K : PySem.W.Frag} {H H1 : Hp} {D3 : Ends3} {D : Ends} (k : KS K H D3 D) (t : TK H H1) : KS K H1 D3 D := ⟨k.nx.mono t, k.rt.mono t, k.bk.mono t, k.ct.mono t⟩
def liftE (K : PySem.W.Frag) (t : TE3) : TE := fun σ H Q => ∃ σ3 H3 Q3, SR K H σ3 σ ∧ HR K H3 H ∧ t σ3 H3 Q3 ∧ KE K H Q3 Q
def liftT (K : PySem.W.Frag) (t : TT3) : TT := fun σ H Q => ∃ σ3 H3 Q3, SR K H σ3 σ ∧ HR K H3 H ∧ t σ3 H3 Q3 ∧ KT K H Q3 Q
def liftA (K : PySem.W.Frag) (t : TA3) : TA := fun σ H Q => ∃ σ3 H3 Q3, SR K H σ3 σ ∧ HR K H3 H ∧ t σ3 H3 Q3 ∧ KA K H Q3 Q
def liftS (K : PySem.W.Frag) (t : TS3) : TS := fun D σ H => ∃ σ3 H3 D3, SR K H σ3 σ ∧ HR K H3 H ∧ t D3 σ3 H3 ∧ KS K H D3 D
def PE3 (X : Cx) (e : Expr) (t : TE3) : Prop := PE X e (liftE X.K t)
def PT3 (X : Cx) (e : Expr) (t : TT3) : Prop := PT X e (liftT X.K t)
def PW3 (X : Cx) (e : Expr) (t : TT3) : Prop := PW X e (liftT X.K t)
def PA3 (X : Cx) (es : List Expr) (t : TA3) : Prop := PA X es (liftA X.K t)
def PS3 (X : Cx) (st : Stmt) (t : TS3) : Prop := PS X st (liftS X.K t)
def PSs3 (X : Cx) (st : List Stmt) (t : TS3) : Prop := PSs X st (liftS X.K t)
section
variable {X : Cx} {e : Expr} {es : List Expr} {st : Stmt} {sts : List Stmt}
theorem pe_imp {t t' : TE} (h : PE X e t) (i : ∀ σ H Q, t' σ H Q → t σ H Q) : PE X e t' := fun pins s σ H Q I hw => h pins s σ H Q I (i σ H Q hw)
theorem pt_imp {t t' : TT} (h : PT X e t) (i : ∀ σ H Q, t' σ H Q → t σ H Q) : PT X e t' := fun pins s σ H Q I hw => h pins s σ H Q I (i σ H Q hw)
theorem pw_imp {t t' : TT} (h : PW X e t) (i : ∀ σ H Q, t' σ H Q → t σ H Q) : PW X e t' := fun wh pins s σ H Q I hw => h wh pins s σ H Q I (i σ H Q hw)
theorem pa_imp {t t' : TA} (h : PA X es t) (i : ∀ σ H Q, t' σ H Q → t σ H Q) : PA X es t' := fun pos pins s σ H Q I hw => h pos pins s σ H Q I (i σ H Q hw)
theorem ps_imp {t t' : TS} (h : PS X st t) (i : ∀ D σ H, t' D σ H → t D σ H) : PS X st t' := fun pins s σ H D I hw => h pins s σ H D I (i D σ H hw)
theorem pss_imp {t t' : TS} (h : PSs X sts t) (i : ∀ D σ H, t' D σ H → t D σ H) : PSs X sts t' := fun pins s σ H D I hw => h pins s σ H D I (i D σ H hw)
end
end L3

namespace L3
open PySem PySem.Spec PyProof.Rows L2
abbrev R3 := D → D → Hp3 → VK3 → Prop
def lift2 (K : PySem.W.Frag) (r : R3) : R2 := fun x y H Q => ∃ dx dy H3 Q3, HR K H3 H ∧ Rep K H dx x ∧ Rep K H dy y ∧ r dx dy H3 Q3 ∧ KE K H Q3 Q
def lift1 (K : PySem.W.Frag) (r : D → Hp3 → VK3 → Prop) : V → Hp → VK → Prop := fun x H Q => ∃ dx H3 Q3, HR K H3 H ∧ Rep K H dx x ∧ r dx H3 Q3 ∧ KE K H Q3 Q
def liftC (K : PySem.W.Frag) (r : List D → Hp3 → VK3 → Prop) : List V → Hp → VK → Prop := fun xs H Q => ∃ ds H3 Q3, HR K H3 H ∧ RepL K H ds xs ∧ r ds H3 Q3 ∧ KE K H Q3 Q
def liftM (K : PySem.W.Frag) (r : D → List D → Hp3 → VK3 → Prop) : V → List V → Hp → VK → Prop := fun x xs H Q => ∃ d ds H3 Q3, HR K H3 H ∧ Rep K H d x ∧ RepL K H ds xs ∧ r d ds H3 Q3 ∧ KE K H Q3 Q

section
variable {X : Cx} {a b c e : Expr} {es : List Expr} {pos : Pos} {ta tb tc te : TE3} {tr : TA3} {tA tB : TT3}
/-! ### names, constants -/
def v3 (i : Nat) : TE3 := fun σ H Q => match σ[i]? with
  | some (some d) => Q d H
  | _ => False
def c3 (d : D) : TE3 := fun _ H Q => Q d H
theorem p3_var (i : Nat) {x : Str} (hN : X.N[i]? = some x := by rfl) (hv : Vis X.env.scope x := by first | exact Or.inl rfl | exact Or.inr (Or.inl rfl) | exact Or.inr (Or.inr rfl)) (hd : (x == ("__debug__" : Str)) = false := by decide)
    (hcd : (x == ("__classdict__" : Str)) = false := by decide) : PE3 X (.Name x pos) (v3 i) :=
  pe_imp (pv i hN hv hd hcd) fun σ H Q ⟨σ3, H3, Q3, sr, hr, t, k⟩ => by
    unfold v3 at t
    split at t
    · rename_i d h
      obtain ⟨v, h1, r⟩ := sr.get i d h
      exact ⟨v, h1, k d v H3 H TK.refl hr r t⟩
    · exact t.elim
theorem p3_int {i : Int} {j : Nat} : PE3 X (.Constant (.int i) j pos) (c3 (.int i)) := pe_imp pe_int fun _ _ _ ⟨_, _, _, _, hr, t, k⟩ => k _ _ _ _ TK.refl hr (.int i) t
theorem p3_bl {i : Bool} {j : Nat} : PE3 X (.Constant (.bool i) j pos) (c3 (.bl i)) := pe_imp pe_bl fun _ _ _ ⟨_, _, _, _, hr, t, k⟩ => k _ _ _ _ TK.refl hr (.bl i) t
theorem p3_str {i : Str} {j : Nat} : PE3 X (.Constant (.str i) j pos) (c3 (.str i)) := pe_imp pe_str fun _ _ _ ⟨_, _, _, _, hr, t, k⟩ => k _ _ _ _ TK.refl hr (.str i) t
/-- a built-in type by its name -/
theorem p3_ty {x : Str} {T : String} (hg : Gl X x) (hm : X.mg x = none) (hv : bootBuiltins x = some (.type T)) (hn : x ≠ "__name__" := by decide) (hd : (x == ("__debug__" : Str)) = false := by decide) : PE3 X (.Name x pos) (c3 (.ty T)) :=
  pe_imp (pe_bltn (v := .ty T) hg hm hv rfl hn hd) fun _ _ _ ⟨_, _, _, _, hr, t, k⟩ => k _ _ _ _ TK.refl hr (.ty T) t
/-! ### two places -/
def o3 (r : R3) (ta tb : TE3) : TE3 := fun σ H Q => ta σ H fun x H1 => tb σ H1 fun y H2 => r x y H2 Q
theorem lift_bin {K : PySem.W.Frag} {r : R3} {σ : St} {H : Hp} {Q : VK} (h : liftE K (o3 r ta tb) σ H Q) : tOp (lift2 K r) (liftE K ta) (liftE K tb) σ H Q := by
  obtain ⟨σ3, H3, Q3, sr, hr, t, k⟩ := h
  exact ⟨σ3, H3, _, sr, hr, t, fun x v H3a Ha tka hra rx qa => ⟨σ3, H3a, _, sr.mono tka, hra, qa, fun y u H3b Hb tkb hrb ry qb =>
    ⟨x, y, H3b, Q3, hrb, rx.mono tkb, ry, qb, k.mono (tka.trans tkb)⟩⟩⟩
theorem p3_op {op : Operator} {r : R3} (ho : OpR X (binaryOp op) (lift2 X.K r)) (ha : PE3 X a ta) (hb : PE3 X b tb) : PE3 X (.BinOp a op b pos) (o3 r ta tb) :=
  pe_imp (pe_op ho ha hb) fun _ _ _ h => lift_bin h
theorem p3_cmp {op : CmpOp} {r : R3} (ho : OpR X (compareOp op) (lift2 X.K r)) (ha : PE3 X a ta) (hb : PE3 X b tb) (hm : behindInMarks op b = false := by first | exact nomark _ | with_unfolding_all rfl) : PE3 X (.Compare a [op] [b] pos) (o3 r ta tb) :=
  pe_imp (pe_cmpR ho ha hb hm) fun _ _ _ h => lift_bin h
theorem p3_ix {r : R3} (hr : IxR X (lift2 X.K r)) (ha : PE3 X a ta) (hb : PE3 X b tb) (hs : PlainIx b := by exact fun _ _ => rfl) : PE3 X (.Subscript a b pos) (o3 r ta tb) :=
  pe_imp (pe_ix hr ha hb hs) fun _ _ _ h => lift_bin h
def u3 (r : D → Hp3 → VK3 → Prop) (ta : TE3) : TE3 := fun σ H Q => ta σ H fun x H1 => r x H1 Q
theorem p3_un {op : UnaryOp} {r : D → Hp3 → VK3 → Prop} (ho : UnR X (unaryOp op) (lift1 X.K r)) (ha : PE3 X a ta) : PE3 X (.UnaryOp op a pos) (u3 r ta) :=
  pe_imp (pe_un ho ha) fun _ _ _ ⟨σ3, H3, Q3, sr, hr, t, k⟩ => ⟨σ3, H3, _, sr, hr, t, fun x v H3a Ha tka hra rx qa => ⟨x, H3a, Q3, hra, rx, qa, k.mono tka⟩⟩

/-! ### tests -/
def bt (d : D) (H : Hp3) (Q : Bool → Hp3 → Prop) : Prop := match d with
  | .bl k => Q k H
  | _ => False
theorem ke_test {K : PySem.W.Frag} {H : Hp} {Q3 : Bool → Hp3 → Prop} {Q : Bool → Hp → Prop} (k : KT K H Q3 Q) : KE K H (fun d H1 => bt d H1 Q3) (fun x H' => ∃ c, x = .bl c ∧ Q c H') := fun d v H3' H' tk hr rep q => by
  cases rep with
  | bl b => exact ⟨b, rfl, k _ _ _ tk hr q⟩
  | _ => exact q.elim
def ts3 (t : TE3) : TT3 := fun σ H Q => t σ H fun d H1 => bt d H1 Q
theorem p3_tcmp {op : CmpOp} {r : R3} (ho : OpR X (compareOp op) (lift2 X.K r)) (ha : PE3 X a ta) (hb : PE3 X b tb) (hm : behindInMarks op b = false := by first | exact nomark _ | with_unfolding_all rfl) : PT3 X (.Compare a [op] [b] pos) (ts3 (o3 r ta tb)) :=
  pt_imp (pt_cmpR ho ha hb hm) fun _ _ _ ⟨σ3, H3, Q3, sr, hr, t, k⟩ => lift_bin ⟨σ3, H3, _, sr, hr, t, ke_test k⟩
/-- a value that is a bool, as a test -/
theorem p3_tval (h : PE3 X e te) (he : ∀ whole, isTrue e X.env whole = (do let v ← whole; standAt e.pos; holding [v] (truthy v)) := by intro _; rfl) : PT3 X e (ts3 te) :=
  pt_imp (pt_val h he) fun _ _ _ ⟨σ3, H3, Q3, sr, hr, t, k⟩ => ⟨σ3, H3, _, sr, hr, t, ke_test k⟩
def an3 (t u : TT3) : TT3 := fun σ H Q => t σ H fun c H1 => if c = true then u σ H1 Q else Q false H1
def or3 (t u : TT3) : TT3 := fun σ H Q => t σ H fun c H1 => if c = true then Q true H1 else u σ H1 Q
def no3 (t : TT3) : TT3 := fun σ H Q => t σ H fun c H1 => Q (!c) H1
variable {rest : List Expr}
theorem KT.mono {K : PySem.W.Frag} {H H1 : Hp} {Q3 : Bool → Hp3 → Prop} {Q : Bool → Hp → Prop} (k : KT K H Q3 Q) (t : TK H H1) : KT K H1 Q3 Q := fun d H3 H' t' => k d H3 H' (t.trans t')
theorem p3_wand1 (ha : PT3 X a tA) : PW3 X (.BoolOp .And [a] pos) tA := pw_and1 ha
theorem p3_wor1 (ha : PT3 X a tA) : PW3 X (.BoolOp .Or [a] pos) tA := pw_or1 ha
theorem p3_wand (ha : PT3 X a tA) (hb : PW3 X (.BoolOp .And (b :: rest) pos) tB) : PW3 X (.BoolOp .And (a :: b :: rest) pos) (an3 tA tB) :=
  pw_imp (pw_and ha hb) fun _ _ _ ⟨σ3, H3, Q3, sr, hr, t, k⟩ => ⟨σ3, H3, _, sr, hr, t, fun c H3a Ha tka hra qa => by
    cases c with
    | true => exact ⟨σ3, H3a, Q3, sr.mono tka, hra, qa, k.mono tka⟩
    | false => exact k _ _ _ tka hra qa⟩
theorem p3_wor (ha : PT3 X a tA) (hb : PW3 X (.BoolOp .Or (b :: rest) pos) tB) : PW3 X (.BoolOp .Or (a :: b :: rest) pos) (or3 tA tB) :=
  pw_imp (pw_or ha hb) fun _ _ _ ⟨σ3, H3, Q3, sr, hr, t, k⟩ => ⟨σ3, H3, _, sr, hr, t, fun c H3a Ha tka hra qa => by
    cases c with
    | false => exact ⟨σ3, H3a, Q3, sr.mono tka, hra, qa, k.mono tka⟩
    | true => exact k _ _ _ tka hra qa⟩
theorem p3_tw (h : PW3 X e tA) : PT3 X e tA := h.pt
theorem p3_tnot (ha : PT3 X a tA) : PT3 X (.UnaryOp .Not a pos) (no3 tA) :=
  pt_imp (pt_not ha) fun _ _ _ ⟨σ3, H3, Q3, sr, hr, t, k⟩ => ⟨σ3, H3, _, sr, hr, t, fun c H3a Ha tka hra qa => k _ _ _ tka hra qa⟩
/-! the same as values -/
def av3 (ta tb : TE3) : TE3 := fun σ H Q => ta σ H fun x H1 => match x with
  | .bl c => if c = true then tb σ H1 Q else Q (.bl false) H1
  | _ => False
def ov3 (ta tb : TE3) : TE3 := fun σ H Q => ta σ H fun x H1 => match x with
  | .bl c => if c = true then Q (.bl true) H1 else tb σ H1 Q
  | _ => False
def nv3 (ta : TE3) : TE3 := fun σ H Q => ta σ H fun x H1 => match x with
  | .bl c => Q (.bl (!c)) H1
  | _ => False
theorem p3_one {op : BoolOp} (h : PE3 X a ta) : PE3 X (.BoolOp op [a] pos) ta := pe_one h
theorem p3_and (ha : PE3 X a ta) (hb : PE3 X (.BoolOp .And (b :: rest) pos) tb) : PE3 X (.BoolOp .And (a :: b :: rest) pos) (av3 ta tb) :=
  pe_imp (pe_and ha hb) fun _ _ _ ⟨σ3, H3, Q3, sr, hr, t, k⟩ => ⟨σ3, H3, _, sr, hr, t, fun x v H3a Ha tka hra rx qa => by
    cases rx with
    | bl c =>
      refine ⟨c, rfl, ?_⟩
      cases c with
      | true => exact ⟨σ3, H3a, Q3, sr.mono tka, hra, qa, k.mono tka⟩
      | false => exact k _ _ _ _ tka hra (.bl false) qa
    | _ => exact qa.elim⟩
theorem p3_not (ha : PE3 X a ta) : PE3 X (.UnaryOp .Not a pos) (nv3 ta) :=
  pe_imp (pe_not ha) fun _ _ _ ⟨σ3, H3, Q3, sr, hr, t, k⟩ => ⟨σ3, H3, _, sr, hr, t, fun x v H3a Ha tka hra rx qa => by
    cases rx with
    | bl c => exact ⟨c, rfl, k _ _ _ _ tka hra (.bl _) qa⟩
    | _ => exact qa.elim⟩
def if3 (t : TT3) (ta tb : TE3) : TE3 := fun σ H Q => t σ H fun c H1 => if c = true then ta σ H1 Q else tb σ H1 Q
/-! ### argument lists, tuples, lists -/
def nil3 : TA3 := fun _ H Q => Q [] H
def cons3 (ta : TE3) (tr : TA3) : TA3 := fun σ H Q => ta σ H fun x H1 => tr σ H1 fun xs H2 => Q (x :: xs) H2
theorem a3_nil : PA3 X [] nil3 := pa_imp pa_nil fun _ _ _ ⟨_, _, _, _, hr, t, k⟩ => k _ _ _ _ TK.refl hr .nil t
theorem a3_cons (ha : PE3 X e te) (hr : PA3 X es tr) (hs : starEach (e :: es) X.env = (false, eval e X.env) :: starEach es X.env := by rfl) : PA3 X (e :: es) (cons3 te tr) :=
  pa_imp (pa_cons ha hr hs) fun _ _ _ ⟨σ3, H3, Q3, sr, hr, t, k⟩ => ⟨σ3, H3, _, sr, hr, t, fun x v H3a Ha tka hra rx qa => ⟨σ3, H3a, _, sr.mono tka, hra, qa, fun ds vs H3b Hb tkb hrb rs qb =>
    k _ _ _ _ (tka.trans tkb) hrb (.cons (rx.mono tkb) rs) qb⟩⟩
def tp3 (t : TA3) : TE3 := fun σ H Q => t σ H fun ds H1 => ds.length ≤ 1000 ∧ Q (.tup ds) H1
def ls3 (t : TA3) : TE3 := fun σ H Q => t σ H fun ds H1 => ds.length ≤ 1000 ∧ ∀ p, H1 p = none → Q (.ref p) (upd3 H1 p (.lst ds))
theorem le_line {n : Nat} (h : n ≤ 1000) : n ≤ sizeLine := Nat.le_of_lt (small1000 h)
theorem p3_tup {x1 : Nat} (h : PA3 X es tr) : PE3 X (.Tuple es x1 pos) (tp3 tr) :=
  pe_imp (pe_tup h) fun _ _ _ ⟨σ3, H3, Q3, sr, hr, t, k⟩ => ⟨σ3, H3, _, sr, hr, t, fun ds vs H3a Ha tka hra rs qa =>
    ⟨by rw [← rs.length]; exact le_line qa.1, fun p n => k _ _ _ _ (tka.trans (TK.fresh n)) (hra.tup n) (.tup upd_same (rs.mono (TK.fresh n))) qa.2⟩⟩
theorem p3_lst (h : PA3 X es tr) : PE3 X (.List es pos) (ls3 tr) :=
  pe_imp (pe_lst h) fun _ _ _ ⟨σ3, H3, Q3, sr, hr, t, k⟩ => ⟨σ3, H3, _, sr, hr, t, fun ds vs H3a Ha tka hra rs qa =>
    ⟨by rw [← rs.length]; exact le_line qa.1, fun p n => k _ _ _ _ (tka.trans (TK.fresh n)) (hra.setL (TK.fresh n) (rs.mono (TK.fresh n))) (.ref p) (qa.2 p (hra.fresh n))⟩⟩
end

/-! ### operations -/
section
variable {X : Cx}
/-- the tuple lists that + and others want short -/
def r3add : R3 := fun x y H Q => match x, y with
  | .int i, .int j => Q (.int (i + j)) H
  | .str i, .str j => i.length + j.length ≤ sizeLine ∧ Q (.str (i ++ j)) H
  | .ref a, .ref b => (match H a, H b with
    | some (.lst xs), some (.lst ys) => xs.length + ys.length ≤ sizeLine ∧ ∀ p, H p = none → Q (.ref p) (upd3 H p (.lst (xs ++ ys)))
    | _, _ => False)
  | _, _ => False
theorem op3_add : OpR X (binaryOp .Add) (lift2 X.K r3add) := by
  intro pins s σ H x y v u Q I rx ry h
  obtain ⟨dx, dy, H3, Q3, hr, rdx, rdy, t, k⟩ := h
  cases rdx with
  | int i =>
    cases rdy with
    | int j => exact op_add pins s σ H _ _ v u Q I rx ry ⟨i, j, rfl, rfl, k _ _ _ _ TK.refl hr (.int _) t⟩
    | _ => exact t.elim
  | str i =>
    cases rdy with
    | str j => exact op_add_str pins s σ H _ _ v u Q I rx ry ⟨i, j, rfl, rfl, t.1, k _ _ _ _ TK.refl hr (.str _) t.2⟩
    | _ => exact t.elim
  | ref a =>
    cases rdy with
    | ref b =>
      simp only [r3add] at t
      split at t
      · rename_i xs ys ha hb
        obtain ⟨vs, ga, ra⟩ := hr a _ ha
        obtain ⟨us, gb, rb⟩ := hr b _ hb
        exact op_cat pins s σ H _ _ v u Q I rx ry ⟨a, b, vs, us, rfl, rfl, ga, gb, by rw [← ra.length, ← rb.length]; exact t.1, fun p n =>
          k _ _ _ _ (TK.fresh n) (hr.setL (TK.fresh n) ((ra.append rb).mono (TK.fresh n))) (.ref p) (t.2 p (hr.fresh n))⟩
      · exact t.elim
    | _ => exact t.elim
  | _ => exact t.elim
/-- two ints -/
def rI3 (C : Int → Int → Prop) (g : Int → Int → D) : R3 := fun x y H Q => match x, y with
  | .int i, .int j => C i j ∧ Q (g i j) H
  | _, _ => False
def rI30 (g : Int → Int → D) : R3 := fun x y H Q => match x, y with
  | .int i, .int j => Q (g i j) H
  | _, _ => False
theorem op3_of0 {f : Value → Value → Sem Value} {g : Int → Int → V} {g3 : Int → Int → D} (h : OpR X f (rI0 g)) (e : ∀ H i j, Rep X.K H (g3 i j) (g i j)) : OpR X f (lift2 X.K (rI30 g3)) := by
  intro pins s σ H x y v u Q I rx ry q
  obtain ⟨dx, dy, H3, Q3, hr, rdx, rdy, t, k⟩ := q
  cases rdx with
  | int i =>
    cases rdy with
    | int j => exact h pins s σ H _ _ v u Q I rx ry ⟨i, j, rfl, rfl, k _ _ _ _ TK.refl hr (e _ i j) t⟩
    | _ => exact t.elim
  | _ => exact t.elim
theorem op3_of {f : Value → Value → Sem Value} {C : Int → Int → Prop} {g : Int → Int → V} {g3 : Int → Int → D} (h : OpR X f (rI C g)) (e : ∀ H i j, Rep X.K H (g3 i j) (g i j)) : OpR X f (lift2 X.K (rI3 C g3)) := by
  intro pins s σ H x y v u Q I rx ry q
  obtain ⟨dx, dy, H3, Q3, hr, rdx, rdy, t, k⟩ := q
  cases rdx with
  | int i =>
    cases rdy with
    | int j => exact h pins s σ H _ _ v u Q I rx ry ⟨i, j, rfl, rfl, t.1, k _ _ _ _ TK.refl hr (e _ i j) t.2⟩
    | _ => exact t.elim
  | _ => exact t.elim
theorem op3_sub : OpR X (binaryOp .Sub) (lift2 X.K (rI30 fun i j => .int (i - j))) := op3_of0 op_sub fun _ _ _ => .int _
theorem op3_mod : OpR X (binaryOp .Mod) (lift2 X.K (rI3 (fun _ j => 0 < j) fun i j => .int (i % j))) := op3_of op_mod fun _ _ _ => .int _
theorem op3_pow : OpR X (binaryOp .Pow) (lift2 X.K (rI3 CPow fun i j => .int (i ^ j.toNat))) := op3_of op_pow fun _ _ _ => .int _
theorem op3_gt : OpR X (compareOp .Gt) (lift2 X.K (rI30 fun i j => .bl (decide (j < i)))) := op3_of0 op_gt fun _ _ _ => .bl _
/-- the ints of a tuple of ints -/
def intsOf : List D → Option (List Int)
  | [] => some []
  | .int i :: ds => (intsOf ds).map (i :: ·)
  | _ :: _ => none
theorem intsOf_inv : ∀ {ds : List D} {ns : List Int}, intsOf ds = some ns → ds = ns.map D.int
  | [], _, h => by simp only [intsOf, Option.some.injEq] at h; subst h; rfl
  | .int i :: ds, ns, h => by
    simp only [intsOf, Option.map_eq_some_iff] at h
    obtain ⟨ms, h1, h2⟩ := h
    subst h2
    rw [intsOf_inv h1]; rfl
  | .non :: _, _, h => by simp [intsOf] at h
  | .bl _ :: _, _, h => by simp [intsOf] at h
  | .str _ :: _, _, h => by simp [intsOf] at h
  | .tup _ :: _, _, h => by simp [intsOf] at h
  | .fl _ :: _, _, h => by simp [intsOf] at h
  | .ktup _ :: _, _, h => by simp [intsOf] at h
  | .ref _ :: _, _, h => by simp [intsOf] at h
  | .ty _ :: _, _, h => by simp [intsOf] at h
def r3lt : R3 := fun x y H Q => match x, y with
  | .int i, .int j => Q (.bl (decide (i < j))) H
  | .tup xs, .tup ys => (match intsOf xs, intsOf ys with
    | some ns, some ms => Q (.bl (HT.lexLt ns ms)) H
    | _, _ => False)
  | _, _ => False
theorem op3_lt (hu : X.A.units < cLine) : OpR X (compareOp .Lt) (lift2 X.K r3lt) := by
  intro pins s σ H x y v u Q I rx ry h
  obtain ⟨dx, dy, H3, Q3, hr, rdx, rdy, t, k⟩ := h
  cases rdx with
  | int i =>
    cases rdy with
    | int j => exact op_lt pins s σ H _ _ v u Q I rx ry ⟨i, j, rfl, rfl, k _ _ _ _ TK.refl hr (.bl _) t⟩
    | _ => exact t.elim
  | tup ha ra =>
    cases rdy with
    | tup hb rb =>
      simp only [r3lt] at t
      split at t
      · rename_i ns ms e1 e2
        have z1 := intsOf_inv e1
        have z2 := intsOf_inv e2
        subst z1; subst z2
        have w1 := ra.ints_inv
        have w2 := rb.ints_inv
        subst w1; subst w2
        exact op_ltT hu pins s σ H _ _ v u Q I rx ry ⟨_, _, ns, ms, rfl, rfl, SqT.of ha, SqT.of hb, k _ _ _ _ TK.refl hr (.bl _) t⟩
      · exact t.elim
    | _ => exact t.elim
  | _ => exact t.elim
def r3neg : D → Hp3 → VK3 → Prop := fun x H Q => match x with
  | .int i => Q (.int (-i)) H
  | _ => False
theorem un3_neg : UnR X (unaryOp .USub) (lift1 X.K r3neg) := by
  intro pins s σ H x v Q I rx h
  obtain ⟨dx, H3, Q3, hr, rdx, t, k⟩ := h
  cases rdx with
  | int i => exact un_neg pins s σ H _ v Q I rx ⟨i, rfl, k _ _ _ _ TK.refl hr (.int _) t⟩
  | _ => exact t.elim
/-! ### is None -/
def isN : D → Bool
  | .non => true
  | _ => false
def r3isN : R3 := fun x y H Q => match y with
  | .non => Q (.bl (isN x)) H
  | _ => False
def r3notN : R3 := fun x y H Q => match y with
  | .non => Q (.bl (!isN x)) H
  | _ => False
/-! ### subscripts -/
theorem atI_rep {K : PySem.W.Frag} {H : Hp} {ds : List D} {vs : List V} {i : Int} {d : D} (r : RepL K H ds vs) (h : atI ds i = some d) : ∃ v, atI vs i = some v ∧ Rep K H d v := by
  unfold atI at h ⊢
  rw [r.length] at h
  cases e : ixN vs.length i with
  | none => rw [e] at h; cases h
  | some j =>
    rw [e] at h
    exact r.get h
def r3ix : R3 := fun x y H Q => match x, y with
  | .tup ds, .int i => (match atI ds i with | some d => Q d H | none => False)
  | .fl ds, .int i => (match atI ds i with | some d => Q d H | none => False)
  | .ktup ds, .int i => (match atI ds i with | some d => Q d H | none => False)
  | .str z, .int i => z.length ≤ sizeLine ∧ (match atI z.cps.toList i with | some c => Q (.str ⟨#[c]⟩) H | none => False)
  | .ref a, .int i => (match H a with
    | some (.lst ds) => (match atI ds i with | some d => Q d H | none => False)
    | _ => False)
  | _, _ => False
theorem ix3 : IxR X (lift2 X.K r3ix) := by
  intro value slice pins s σ H x y v u Q I rx ry h hs
  obtain ⟨dx, dy, H3, Q3, hr, rdx, rdy, t, k⟩ := h
  cases rdx with
  | tup ha ra =>
    cases rdy with
    | int i =>
      simp only [r3ix] at t
      split at t
      · rename_i d e
        obtain ⟨w, ew, rw'⟩ := atI_rep ra e
        exact ix_tup value slice pins s σ H _ _ v u Q I rx ry ⟨_, _, i, w, rfl, rfl, SqT.of ha, ew, k _ _ _ _ TK.refl hr rw' t⟩ hs
      · exact t.elim
    | _ => exact t.elim
  | ktup ha ra =>
    cases rdy with
    | int i =>
      simp only [r3ix] at t
      split at t
      · rename_i d e
        obtain ⟨w, ew, rw'⟩ := atI_rep ra e
        exact ix_tup value slice pins s σ H _ _ v u Q I rx ry ⟨_, _, i, w, rfl, rfl, ha.sq, ew, k _ _ _ _ TK.refl hr rw' t⟩ hs
      · exact t.elim
    | _ => exact t.elim
  | fl ha ra =>
    cases rdy with
    | int i =>
      simp only [r3ix] at t
      split at t
      · rename_i d e
        obtain ⟨w, ew, rw'⟩ := atI_rep ra e
        exact ix_list value slice pins s σ H _ _ v u Q I rx ry ⟨_, _, i, w, rfl, rfl, ha.sq, ew, k _ _ _ _ TK.refl hr rw' t⟩ hs
      · exact t.elim
    | _ => exact t.elim
  | str z =>
    cases rdy with
    | int i =>
      simp only [r3ix] at t
      obtain ⟨hz, t⟩ := t
      split at t
      · rename_i c e
        exact ix_str value slice pins s σ H _ _ v u Q I rx ry ⟨z, i, c, rfl, rfl, hz, e, k _ _ _ _ TK.refl hr (.str _) t⟩ hs
      · exact t.elim
    | _ => exact t.elim
  | ref a =>
    cases rdy with
    | int i =>
      simp only [r3ix] at t
      split at t
      · rename_i ds ha
        obtain ⟨vs, ga, ra⟩ := hr a _ ha
        split at t
        · rename_i d e
          obtain ⟨w, ew, rw'⟩ := atI_rep ra e
          exact ix_list value slice pins s σ H _ _ v u Q I rx ry ⟨_, _, i, w, rfl, rfl, SqL.of ga, ew, k _ _ _ _ TK.refl hr rw' t⟩ hs
        · exact t.elim
      · exact t.elim
    | _ => exact t.elim
  | _ => exact t.elim

/-! ### slices -/
def cut3 {α : Type} (xs : List α) (lo hi : Option Int) : List α := (xs.drop (HT.sIx xs.length 0 lo)).take (HT.sIx xs.length xs.length hi - HT.sIx xs.length 0 lo)
abbrev TO3 := St3 → Hp3 → (Option Int → Hp3 → Prop) → Prop
def np3 : TO3 := fun _ H Q => Q none H
def pt3 (t : TE3) : TO3 := fun σ H Q => t σ H fun x H1 => match x with
  | .int i => Q (some i) H1
  | _ => False
abbrev RSl := D → Option Int → Option Int → Hp3 → VK3 → Prop
def sl3 (r : RSl) (te : TE3) (tl th : TO3) : TE3 := fun σ H Q => te σ H fun x H1 => tl σ H1 fun l H2 => th σ H2 fun u H3 => r x l u H3 Q
def r3sl : RSl := fun x lo hi H Q => match x with
  | .fl ds => ∀ p, H p = none → Q (.ref p) (upd3 H p (.lst (cut3 ds lo hi)))
  | .ref a => (match H a with
    | some (.lst ds) => ∀ p, H p = none → Q (.ref p) (upd3 H p (.lst (cut3 ds lo hi)))
    | _ => False)
  | _ => False
/-! ### calls of built-ins -/
def cb3 (r : List D → Hp3 → VK3 → Prop) (t : TA3) : TE3 := fun σ H Q => t σ H fun ds H1 => r ds H1 Q
theorem lift_cb {K : PySem.W.Frag} {r : List D → Hp3 → VK3 → Prop} {t : TA3} {σ : St} {H : Hp} {Q : VK} (h : liftE K (cb3 r t) σ H Q) : tCB (liftC K r) (liftA K t) σ H Q := by
  obtain ⟨σ3, H3, Q3, sr, hr, t, k⟩ := h
  exact ⟨σ3, H3, _, sr, hr, t, fun ds vs H3a Ha tka hra rs qa => ⟨ds, H3a, Q3, hra, rs, qa, k.mono tka⟩⟩
theorem p3_callB {x : Str} {p pos : Pos} {e : Expr} {es : List Expr} {t : TA3} {id : String} {r : List D → Hp3 → VK3 → Prop} (hc : CallR X (.builtin id) (liftC X.K r)) (hg : Gl X x) (hm : X.mg x = none) (hv : bootBuiltins x = some (.builtin id)) (ha : PA3 X (e :: es) t)
    (hn : x ≠ "__name__" := by decide) (hdb : (x == ("__debug__" : Str)) = false := by decide)
    (he : starEach (e :: es) X.env = (false, eval e X.env) :: starEach es X.env := by rfl) (hpl : (backTo pos (starEach es X.env)).any (·.1) = false := by rfl) : PE3 X (.Call (.Name x p) (e :: es) [] pos) (cb3 r t) :=
  pe_imp (pe_callB hc hg hm hv ha hn hdb he hpl) fun _ _ _ h => lift_cb h
theorem p3_callTy {x : Str} {p pos : Pos} {e : Expr} {es : List Expr} {t : TA3} {T : String} {r : List D → Hp3 → VK3 → Prop} (hc : CallR X (.type T) (liftC X.K r)) (hg : Gl X x) (hm : X.mg x = none) (hv : bootBuiltins x = some (.type T)) (ha : PA3 X (e :: es) t)
    (hn : x ≠ "__name__" := by decide) (hdb : (x == ("__debug__" : Str)) = false := by decide)
    (he : starEach (e :: es) X.env = (false, eval e X.env) :: starEach es X.env := by rfl) (hpl : (backTo pos (starEach es X.env)).any (·.1) = false := by rfl) : PE3 X (.Call (.Name x p) (e :: es) [] pos) (cb3 r t) :=
  pe_imp (pe_callTy hc hg hm hv ha hn hdb he hpl) fun _ _ _ h => lift_cb h
def r3len : List D → Hp3 → VK3 → Prop := fun ds H Q => match ds with
  | [.tup xs] => Q (.int xs.length) H
  | [.fl xs] => Q (.int xs.length) H
  | [.str z] => z.length ≤ sizeLine ∧ Q (.int z.length) H
  | [.ref a] => (match H a with
    | some (.lst xs) => Q (.int xs.length) H
    | _ => False)
  | _ => False
theorem cb3_len : CallR X (.builtin "len") (liftC X.K r3len) := by
  intro pins s σ H xs us Q I rs h
  obtain ⟨ds, H3, Q3, hr, rd, t, k⟩ := h
  cases rd with
  | nil => exact t.elim
  | cons r1 r2 =>
    cases r2 with
    | cons _ _ => cases r1 <;> exact t.elim
    | nil =>
      cases r1 with
      | tup ha ra => exact call_len_seq pins s σ H _ us Q I rs ⟨_, _, rfl, .inr (SqT.of ha), by rw [← ra.length]; exact k _ _ _ _ TK.refl hr (.int _) t⟩
      | fl ha ra => exact call_len_seq pins s σ H _ us Q I rs ⟨_, _, rfl, .inl ha.sq, by rw [← ra.length]; exact k _ _ _ _ TK.refl hr (.int _) t⟩
      | str z => exact call_len_str pins s σ H _ us Q I rs ⟨_, rfl, t.1, k _ _ _ _ TK.refl hr (.int _) t.2⟩
      | ref a =>
        simp only [r3len] at t
        split at t
        · rename_i ds ha
          obtain ⟨vs, ga, ra⟩ := hr a _ ha
          exact call_len_seq pins s σ H _ us Q I rs ⟨_, _, rfl, .inl (SqL.of ga), by rw [← ra.length]; exact k _ _ _ _ TK.refl hr (.int _) t⟩
        · exact t.elim
      | _ => exact t.elim
def r3tuple : List D → Hp3 → VK3 → Prop := fun ds H Q => match ds with
  | [.tup xs] => Q (.tup xs) H
  | [.fl xs] => Q (.tup xs) H
  | [.ref a] => (match H a with
    | some (.lst xs) => Q (.tup xs) H
    | _ => False)
  | _ => False
theorem cb3_tuple : CallR X (.type "tuple") (liftC X.K r3tuple) := by
  intro pins s σ H xs us Q I rs h
  obtain ⟨ds, H3, Q3, hr, rd, t, k⟩ := h
  cases rd with
  | nil => exact t.elim
  | cons r1 r2 =>
    cases r2 with
    | cons _ _ => cases r1 <;> exact t.elim
    | nil =>
      cases r1 with
      | tup ha ra => exact call_tuple_of pins s σ H _ us Q I rs ⟨_, _, rfl, .inr ⟨SqT.of ha, k _ _ _ _ TK.refl hr (.tup ha ra) t⟩⟩
      | fl ha ra => exact call_tuple_of pins s σ H _ us Q I rs ⟨_, _, rfl, .inl ⟨ha.sq, fun l n => k _ _ _ _ (TK.fresh n) (hr.tup n) (.tup upd_same (ra.mono (TK.fresh n))) t⟩⟩
      | ref a =>
        simp only [r3tuple] at t
        split at t
        · rename_i ds ha
          obtain ⟨vs, ga, ra⟩ := hr a _ ha
          exact call_tuple_of pins s σ H _ us Q I rs ⟨_, _, rfl, .inl ⟨SqL.of ga, fun l n => k _ _ _ _ (TK.fresh n) (hr.tup n) (.tup upd_same (ra.mono (TK.fresh n))) t⟩⟩
        · exact t.elim
      | _ => exact t.elim
def r3list : List D → Hp3 → VK3 → Prop := fun ds H Q => match ds with
  | [.tup xs] => ∀ p, H p = none → Q (.ref p) (upd3 H p (.lst xs))
  | [.fl xs] => ∀ p, H p = none → Q (.ref p) (upd3 H p (.lst xs))
  | [.ref a] => (match H a with
    | some (.lst xs) => ∀ p, H p = none → Q (.ref p) (upd3 H p (.lst xs))
    | _ => False)
  | _ => False
end
end L3

namespace L3
open PySem PySem.Spec PyProof.Rows L2
/-! ### ranges of any numbers -/
theorem turn_long {P : Program} {w : World} {K : PySem.W.Frag} {tg : Expr} (it : Addr) (lo : Int) (n : Nat) : Turn P w K tg (Itr lo n) [it] it (fun i h => IsLongIter h it (lo + (i : Nat) * 1) ((n : Int) - (i : Nat)) 1) where
  mem := List.mem_singleton.mpr rfl
  obj := fun i h st b hb => by
    rw [List.mem_singleton.mp hb]
    exact ⟨_, st, fun v z => by have z' : Data.fields _ = Data.cell v := z; cases z'⟩
  keep := fun i h h' st k => k it (List.mem_singleton.mpr rfl) _ st
  item := by
    intro X hP hw hK hc i pins s σ H E I hf st hg
    subst hP hw hK
    obtain ⟨f0, f1, f2, f3, f4, f5⟩ := hf it (List.mem_singleton.mpr rfl)
    have hlt : i < n := hg
    refine wpAny_pyNext_long_item st (by omega) fun h' st' sb => ?_
    have I1 : Inv X pins σ H { s with heap := h', toks := s.toks + 1 } := I.turned (fun b o hb e => (sb.2 b hb).trans e) f0 f1 f3 f4 f5
    have st2 : IsLongIter h' it (lo + ((i + 1 : Nat) : Int) * 1) ((n : Int) - ((i + 1 : Nat) : Int)) 1 := by
      have e1 : lo + (i : Int) * 1 + 1 = lo + ((i + 1 : Nat) : Int) * 1 := by omega
      have e2 : (n : Int) - (i : Int) - 1 = (n : Int) - ((i + 1 : Nat) : Int) := by omega
      rw [← e1, ← e2]; exact st'
    exact ⟨_, rfl, go_of (s := { s with heap := h', toks := s.toks + 1 }) (n := "longrange_iterator") st2 rfl rfl (by decide) ⟨.int (lo + i), H, I1, ⟨s.toks, by rw [Int.mul_one]⟩, ⟨rfl, rfl⟩, st2, fun b hb => (hf b hb).1⟩⟩
  done := by
    intro X hP hw hK hc i pins s σ H E I hf st hg
    subst hP hw hK
    obtain ⟨f0, f1, f2, f3, f4, f5⟩ := hf it (List.mem_singleton.mpr rfl)
    have hle : n ≤ i := hg
    exact wpAny_pyNext_long_end (I.ok.hd hc) st (by omega) fun h' eb => ⟨rfl, I.turned (t' := s.toks) (fun b o hb e => eb b o hb e) f0 f1 f3 f4 f5⟩
  self := fun _ _ _ _ _ st h => wpAny_pyIter_longiter st h
section
variable {X : Cx} {tg : Expr}
theorem range_any {pins : List (Addr × Obj)} {σ : St} {H : Hp} {s : Shared} {R : It → Hp → Prop} {E : Value → Shared → Prop} {lo hi : Int} {t u v : Tok} {tk : Nat} (I : Inv X pins σ H s) (q : R (Itr lo (hi - lo).toNat) H) :
    wpAny (model X.prog X.w) X.A (pyIter (.ref s.heap.objs.size)) (PIE X pins σ tg R) E { s with heap := s.heap.push { cls := .type "range", data := .fields #[.int lo t, .int hi u, .int 1 v] }, toks := tk } := by
  have I1 : Inv X pins σ H { s with heap := s.heap.push { cls := .type "range", data := .fields #[.int lo t, .int hi u, .int 1 v] }, toks := tk } := I.kept fun b o e => Heap.get?_push_of_some _ e
  have e2 : (((hi - lo).toNat : Nat) : Int) - ((0 : Nat) : Int) = Builtin.Range.rangeSize lo hi 1 := by rw [rangeSize_one]; split <;> omega
  have e1 : lo + ((0 : Nat) : Int) * 1 = lo := by omega
  have hf : ∀ b ∈ [(s.heap.push { cls := .type "range", data := .fields #[.int lo t, .int hi u, .int 1 v] }).objs.size], FpOk X pins H b := fun b hb => by
    rw [List.mem_singleton.mp hb]
    exact I1.fpOk (Nat.le_refl _) (I1.hok.fresh (Nat.le_refl _))
  cases hs : Builtin.Range.small lo hi 1 with
  | true =>
    refine wpAny_pyIter_range (IsRange.new ..) hs ⟨_, _, _, _, H, rfl, I1.kept (t' := tk) fun b o e => Heap.get?_push_of_some _ e, turn_range _ lo (hi - lo).toNat, ?_, hf, q⟩
    show IsRangeIter _ _ (lo + ((0 : Nat) : Int) * 1) ((((hi - lo).toNat : Nat) : Int) - ((0 : Nat) : Int)) 1
    rw [e1, e2]
    exact Heap.get?_push_size _ rfl
  | false =>
    refine wpAny_pyIter_longrange (IsRange.new ..) hs ⟨_, _, _, _, H, rfl, I1.kept (t' := tk) fun b o e => Heap.get?_push_of_some _ e, turn_long _ lo (hi - lo).toNat, ?_, hf, q⟩
    show IsLongIter _ _ (lo + ((0 : Nat) : Int) * 1) ((((hi - lo).toNat : Nat) : Int) - ((0 : Nat) : Int)) 1
    rw [e1, e2]
    exact Heap.get?_push_size _ rfl
def jRng1 (ta : TA) : TI := fun σ H R => ta σ H fun vs H1 => ∃ j : Int, vs = [.int j] ∧ R (Itr 0 j.toNat) H1
theorem pj_range1 {a : Expr} {ta : TA} {p pos : Pos} (hg : Gl X "range") (hm : X.mg "range" = none) (ha : PA X [a] ta) (hs : starEach [a] X.env = [(false, eval a X.env)] := by rfl) : PI X tg (.Call (.Name "range" p) [a] [] pos) (jRng1 ta) := by
  intro pins s σ H R I h
  refine Call_ (ld_blt I hg hm boot_range (PyProof.Rows.callWith_type1 (thn (ha pos pins s σ H _ I h) fun us s1 ⟨vs, H1, I1, r1, j, e, q⟩ => ?_) hs rfl))
  subst e
  obtain ⟨u, rfl, t, rfl⟩ := vals1 r1
  exact call_range_1 (range_any I1 (by simpa using q))
end
end L3

namespace L3
open PySem PySem.Spec PyProof.Rows L2
section
variable {X : Cx} {st : Stmt} {rest : List Stmt} {t u : TS3} {e : Expr} {te : TE3} {pos : Pos}
/-! ### statements -/
def nx3 : TS3 := fun D σ H => D.nx σ H
def sq3 (t u : TS3) : TS3 := fun D σ H => t { D with nx := u D } σ H
theorem s3_nil : PSs3 X [] nx3 := pss_imp pss_nil fun _ _ _ ⟨_, _, _, sr, hr, t, k⟩ => k.nx _ _ _ _ TK.refl sr hr t
theorem s3_cons (h1 : PS3 X st t) (h2 : PSs3 X rest u) : PSs3 X (st :: rest) (sq3 t u) :=
  pss_imp (pss_cons h1 h2) fun _ _ _ ⟨σ3, H3, D3, sr, hr, q, k⟩ => ⟨σ3, H3, { D3 with nx := u D3 }, sr, hr, q,
    ⟨fun σ3' σ' H3' H' tk sr' hr' q' => ⟨σ3', H3', D3, sr', hr', q', k.mono tk⟩, k.rt, k.bk, k.ct⟩⟩
theorem s3_one (h1 : PS3 X st t) : PSs3 X [st] t := pss_one h1
def br3 : TS3 := fun D σ H => D.bk σ H
def co3 : TS3 := fun D σ H => D.ct σ H
def dr3 (te : TE3) : TS3 := fun D σ H => te σ H fun _ H1 => D.nx σ H1
theorem s3_expr (he : PE3 X e te) (hs : swapsWith e none pos.line X.env = pure false := by rfl) : PS3 X (.Expr e pos) (dr3 te) :=
  ps_imp (ps_expr he hs) fun _ _ _ ⟨σ3, H3, D3, sr, hr, t, k⟩ => ⟨σ3, H3, _, sr, hr, t, fun x v H3a Ha tka hra rx qa => k.nx _ _ _ _ tka (sr.mono tka) hra qa⟩
def rt3 (te : TE3) : TS3 := fun D σ H => te σ H D.rt
theorem s3_ret (he : PE3 X e te) : PS3 X (.Return (some e) pos) (rt3 te) :=
  ps_imp (ps_ret he) fun _ _ _ ⟨σ3, H3, D3, sr, hr, t, k⟩ => ⟨σ3, H3, _, sr, hr, t, k.rt⟩
def rn3 : TS3 := fun D _ H => D.rt .non H
def is3 (c : TT3) (t u : TS3) : TS3 := fun D σ H => c σ H fun b H1 => if b = true then t D σ H1 else u D σ H1
theorem s3_if {c : Expr} {a b : List Stmt} {tc : TT3} (hc : PT3 X c tc) (ha : PSs3 X a t) (hb : PSs3 X b u) : PS3 X (.If c a b pos) (is3 tc t u) :=
  ps_imp (ps_if hc ha hb) fun _ _ _ ⟨σ3, H3, D3, sr, hr, q, k⟩ => ⟨σ3, H3, _, sr, hr, q, fun b H3a Ha tka hra qa => by
    cases b with
    | true => exact ⟨σ3, H3a, D3, sr.mono tka, hra, qa, k.mono tka⟩
    | false => exact ⟨σ3, H3a, D3, sr.mono tka, hra, qa, k.mono tka⟩⟩
def st3 (i : Nat) (te : TE3) : TS3 := fun D σ H => te σ H fun x H1 => D.nx (σ.set i (some x)) H1
theorem s3_set (i : Nat) {x : Str} {pos' : Pos} (hN : X.N.Nodup) (he : PE3 X e te) (hi : X.N[i]? = some x := by rfl) (hx : Loc X.env.scope x := by first | exact Or.inl rfl | exact Or.inr rfl) (hs : swapsWith e (some (.Name x pos')) pos.line X.env = pure false := by rfl)
    (hf : X.fn x = true ∨ X.env.scope.names.lookup x = some .local := by first | exact .inl rfl | exact .inr rfl | assumption) : PS3 X (.Assign [.Name x pos'] e pos) (st3 i te) :=
  ps_imp (ps_set hN hi hx he hs hf) fun _ _ _ ⟨σ3, H3, D3, sr, hr, t, k⟩ => ⟨σ3, H3, _, sr, hr, t, fun x v H3a Ha tka hra rx qa => k.nx _ _ _ _ tka ((sr.mono tka).set i rx) hra qa⟩

/-! ### targets -/
abbrev TG3 := D → St3 → Hp3 → (St3 → Hp3 → Prop) → Prop
def liftG (K : PySem.W.Frag) (t : TG3) : TG := fun v σ H Q => ∃ d σ3 H3 Q3, Rep K H d v ∧ SR K H σ3 σ ∧ HR K H3 H ∧ t d σ3 H3 Q3 ∧ KN K H Q3 Q
def PG3 (X : Cx) (tg : Expr) (t : TG3) : Prop := PG X tg (liftG X.K t)
theorem pg_imp {tg : Expr} {t t' : TG} (h : PG X tg t) (i : ∀ v σ H Q, t' v σ H Q → t v σ H Q) : PG X tg t' := fun pins s σ H v u Q I r hw => h pins s σ H v u Q I r (i v σ H Q hw)
def gn3 (i : Nat) : TG3 := fun d σ H Q => Q (σ.set i (some d)) H
theorem g3_name (i : Nat) {x : Str} (hN : X.N.Nodup) (hi : X.N[i]? = some x := by rfl) (hx : Loc X.env.scope x := by first | exact Or.inl rfl | exact Or.inr rfl) (hf : X.fn x = true ∨ X.env.scope.names.lookup x = some .local := by first | exact .inl rfl | exact .inr rfl | assumption) :
    PG3 X (.Name x pos) (gn3 i) := pg_imp (pg_name hN hi hx hf) fun _ _ _ _ ⟨d, σ3, H3, Q3, rd, sr, hr, t, k⟩ => k _ _ _ _ TK.refl (sr.set i rd) hr t
def g2_3 (i j : Nat) : TG3 := fun d σ H Q => match d with
  | .tup [x, y] => Q ((σ.set i (some x)).set j (some y)) H
  | _ => False
def g3_3 (i j l : Nat) : TG3 := fun d σ H Q => match d with
  | .tup [x, y, z] => Q (((σ.set i (some x)).set j (some y)).set l (some z)) H
  | _ => False
theorem g3_pair (i j : Nat) {x y : Str} {p1 p2 : Pos} {kk : Nat} (hc : X.calm = true) (hN : X.N.Nodup) (hi : X.N[i]? = some x := by rfl) (hx : Loc X.env.scope x := by first | exact Or.inl rfl | exact Or.inr rfl) (hj : X.N[j]? = some y := by rfl) (hy : Loc X.env.scope y := by first | exact Or.inl rfl | exact Or.inr rfl)
    (hf : X.fn x = true ∨ X.env.scope.names.lookup x = some .local := by first | exact .inl rfl | exact .inr rfl | assumption) (hf' : X.fn y = true ∨ X.env.scope.names.lookup y = some .local := by first | exact .inl rfl | exact .inr rfl | assumption) :
    PG3 X (.Tuple [.Name x p1, .Name y p2] kk pos) (g2_3 i j) :=
  pg_imp (pg_tup (n := 2) hc (pgs_cons (pg_name hN hi hx hf) (pgs_cons (pg_name hN hj hy hf') pgs_nil))) fun v σ H Q ⟨d, σ3, H3, Q3, rd, sr, hr, t, k⟩ => by
    cases rd with
    | tup ha ra =>
      cases ra with
      | nil => exact t.elim
      | cons r1 ra =>
        cases ra with
        | nil => exact t.elim
        | cons r2 ra =>
          cases ra with
          | cons _ _ => exact t.elim
          | nil => exact ⟨_, _, rfl, SqT.of ha, rfl, _, _, rfl, _, _, rfl, rfl, k _ _ _ _ TK.refl ((sr.set i r1).set j r2) hr t⟩
    | _ => exact t.elim
def as3 (te : TE3) (g : TG3) : TS3 := fun D σ H => te σ H fun x H1 => g x σ H1 D.nx
theorem s3_asg {tg : Expr} {g : TG3} (he : PE3 X e te) (hg : PG3 X tg g) (hs : swapsWithSole [tg] e pos.line X.env = pure false := by rfl) (hw : swappedStores [tg] e X.env = pure none := by rfl)
    (h1 : (assignEach [tg] X.env).map (·.2) = [assign tg X.env] := by rfl) : PS3 X (.Assign [tg] e pos) (as3 te g) :=
  ps_imp (ps_asg he hg hs hw h1) fun _ _ _ ⟨σ3, H3, D3, sr, hr, t, k⟩ => ⟨σ3, H3, _, sr, hr, t, fun x v H3a Ha tka hra rx qa => ⟨x, σ3, H3a, _, rx, sr.mono tka, hra, qa, k.nx.mono tka⟩⟩

/-! ### while -/
def wh3 (c : TT3) (tb : TS3) : TS3 := fun D σ H => ∃ (P : St3 → Hp3 → Prop) (μ : St3 → Hp3 → Nat), P σ H ∧ ∀ σ H, P σ H →
  c σ H fun b H1 => if b = true then tb { D with nx := fun σ' H' => P σ' H' ∧ μ σ' H' < μ σ H, ct := fun σ' H' => P σ' H' ∧ μ σ' H' < μ σ H, bk := D.nx } σ H1 else D.nx σ H1
theorem s3_while {c : Expr} {body : List Stmt} {tc : TT3} {tb : TS3} (hp : PassesOwn (model X.prog X.w) X.A X.env X.xe) (hc : PT3 X c tc) (hb : PSs3 X body tb) : PS3 X (.While c body [] pos) (wh3 tc tb) :=
  ps_imp (ps_while hp hc hb) fun D σ H ⟨σ3, H3, D3, sr, hr, t, k⟩ => by
    obtain ⟨P, μ, p0, turn⟩ := t
    refine ⟨fun m σ' H' => ∃ σ3' H3', TK H H' ∧ SR X.K H' σ3' σ' ∧ HR X.K H3' H' ∧ P σ3' H3' ∧ m = μ σ3' H3', ⟨_, σ3, H3, TK.refl, sr, hr, p0, rfl⟩, ?_⟩
    rintro m σ1 H1 ⟨σ31, H31, tk1, sr1, hr1, p1, rfl⟩
    refine ⟨σ31, H31, _, sr1, hr1, turn σ31 H31 p1, fun b H3a Ha tka hra qa => ?_⟩
    cases b with
    | false => exact k.nx _ _ _ _ (tk1.trans tka) (sr1.mono tka) hra qa
    | true =>
      refine ⟨fun σ' H' => ∃ σ3' H3', TK H H' ∧ SR X.K H' σ3' σ' ∧ HR X.K H3' H' ∧ P σ3' H3' ∧ μ σ3' H3' < μ σ31 H31, ?_, ?_⟩
      · rintro σ' H' ⟨σ3', H3', z1, z2, z3, z4, z5⟩
        exact ⟨_, z5, σ3', H3', z1, z2, z3, z4, rfl⟩
      · have kk := k.mono (tk1.trans tka)
        exact ⟨σ31, H3a, _, sr1.mono tka, hra, qa, ⟨fun σ3' σ' H3' H' tk' sr' hr' q' => ⟨σ3', H3', (tk1.trans tka).trans tk', sr', hr', q'.1, q'.2⟩, kk.rt, kk.nx,
          fun σ3' σ' H3' H' tk' sr' hr' q' => ⟨σ3', H3', (tk1.trans tka).trans tk', sr', hr', q'.1, q'.2⟩⟩⟩

/-! ### for -/
/-- what is walked: its items, and what must stay for it -/
abbrev TI3 := St3 → Hp3 → (List D → (Hp3 → Prop) → Hp3 → Prop) → Prop
def ItOk (K : PySem.W.Frag) (H0 : Hp) (ds : List D) (keep : Hp3 → Prop) (J : It) : Prop :=
  ∀ H3 H, TK H0 H → HR K H3 H → keep H3 → (∀ i, i < ds.length → J.go i H ∧ ∀ x H', J.yld i H x H' → TK H H' ∧ HR K H3 H' ∧ ∃ d, ds[i]? = some d ∧ Rep K H' d x) ∧ J.stop ds.length H
def liftI (K : PySem.W.Frag) (t : TI3) : TI := fun σ H R => ∃ σ3 H3 R3, SR K H σ3 σ ∧ HR K H3 H ∧ t σ3 H3 R3 ∧
  ∀ ds keep J H3' H', TK H H' → HR K H3' H' → ItOk K H' ds keep J → R3 ds keep H3' → R J H'
def PI3 (X : Cx) (tg iter : Expr) (t : TI3) : Prop := PI X tg iter (liftI X.K t)
theorem pi_imp {tg iter : Expr} {t t' : TI} (h : PI X tg iter t) (i : ∀ σ H R, t' σ H R → t σ H R) : PI X tg iter t' := fun pins s σ H R I hw => h pins s σ H R I (i σ H R hw)
/-- a list's items -/
def il3 (te : TE3) : TI3 := fun σ H R => te σ H fun x H1 => match x with
  | .ref a => (match H1 a with
    | some (.lst ds) => R ds (fun H' => H' a = some (.lst ds)) H1
    | _ => False)
  | .fl ds => R ds (fun _ => True) H1
  | _ => False
/-- a tuple's items -/
def it3 (te : TE3) : TI3 := fun σ H R => te σ H fun x H1 => match x with
  | .tup ds => R ds (fun _ => True) H1
  | _ => False
theorem itOk_list {K : PySem.W.Frag} {H : Hp} {a : Addr} {ds : List D} : ItOk K H ds (fun H' => H' a = some (.lst ds)) (Itl K a) := fun H3 H' _ hr hk => by
  obtain ⟨vs, ga, ra⟩ := hr a _ hk
  refine ⟨fun i hi => ⟨⟨vs, vs[i]'(by rw [← ra.length]; exact hi), SqL.of ga, by simp⟩, fun x H'' y => ?_⟩, ⟨vs, SqL.of ga, by rw [ra.length]; exact Nat.le_refl _⟩⟩
  obtain ⟨e, y⟩ := y
  subst e
  exact ⟨TK.refl, hr, ra.getV (y vs (SqL.of ga))⟩
theorem itOk_fl {K : PySem.W.Frag} {H : Hp} {a : Addr} {xs : List V} {ds : List D} (ha : FzL K H a xs) (ra : RepL K H ds xs) : ItOk K H ds (fun _ => True) (Itl K a) := fun H3 H' tk hr _ => by
  have hq := (tk.fzL ha).sq
  have ra' := ra.mono tk
  refine ⟨fun i hi => ⟨⟨xs, xs[i]'(by rw [← ra.length]; exact hi), hq, by simp⟩, fun x H'' y => ?_⟩, ⟨xs, hq, by rw [ra.length]; exact Nat.le_refl _⟩⟩
  obtain ⟨e, y⟩ := y
  subst e
  exact ⟨TK.refl, hr, ra'.getV (y xs hq)⟩
theorem itOk_tup {K : PySem.W.Frag} {H : Hp} {a : Addr} {xs : List V} {ds : List D} (ha : SqT K H a xs) (ra : RepL K H ds xs) : ItOk K H ds (fun _ => True) (Itt K a) := fun H3 H' tk hr _ => by
  have hq := tk.sqT ha
  have ra' := ra.mono tk
  refine ⟨fun i hi => ⟨⟨xs, xs[i]'(by rw [← ra.length]; exact hi), hq, by simp⟩, fun x H'' y => ?_⟩, ⟨xs, hq, by rw [ra.length]; exact Nat.le_refl _⟩⟩
  obtain ⟨e, y⟩ := y
  subst e
  exact ⟨TK.refl, hr, ra'.getV (y xs hq)⟩
theorem i3_list {tg : Expr} (h : PE3 X e te) : PI3 X tg e (il3 te) :=
  pi_imp (pi_list h) fun _ _ _ ⟨σ3, H3, R3, sr, hr, t, k⟩ => ⟨σ3, H3, _, sr, hr, t, fun x v H3a Ha tka hra rx qa => by
    cases rx with
    | ref a =>
      simp only [] at qa
      split at qa
      · rename_i ds ha
        obtain ⟨vs, ga, ra⟩ := hra a _ ha
        exact ⟨a, rfl, ⟨vs, SqL.of ga⟩, k _ _ _ _ _ tka hra itOk_list qa⟩
      · exact qa.elim
    | fl ha ra => exact ⟨_, rfl, ⟨_, ha.sq⟩, k _ _ _ _ _ tka hra (itOk_fl ha ra) qa⟩
    | _ => exact qa.elim⟩
theorem i3_tup {tg : Expr} (h : PE3 X e te) : PI3 X tg e (it3 te) :=
  pi_imp (pi_tup h) fun _ _ _ ⟨σ3, H3, R3, sr, hr, t, k⟩ => ⟨σ3, H3, _, sr, hr, t, fun x v H3a Ha tka hra rx qa => by
    cases rx with
    | tup ha ra => exact ⟨_, rfl, ⟨_, SqT.of ha⟩, k _ _ _ _ _ tka hra (itOk_tup (SqT.of ha) ra) qa⟩
    | _ => exact qa.elim⟩
/-- the ints lo, lo + 1, .., n of them -/
def rng (lo : Int) (n : Nat) : List D := (List.range n).map fun (i : Nat) => D.int (lo + (i : Int))
theorem rng_len (lo : Int) (n : Nat) : (rng lo n).length = n := by simp [rng]
theorem rng_get {lo : Int} {n i : Nat} (h : i < n) : (rng lo n)[i]? = some (.int (lo + i)) := by simp [rng, h]
theorem itOk_rng {K : PySem.W.Frag} {H : Hp} {lo : Int} {n : Nat} : ItOk K H (rng lo n) (fun _ => True) (Itr lo n) := fun H3 H' tk hr _ => by
  refine ⟨fun i hi => ?_, ?_⟩
  · rw [rng_len] at hi
    refine ⟨hi, fun x H'' y => ?_⟩
    obtain ⟨e, y⟩ := y
    subst y
    subst e
    exact ⟨TK.refl, hr, _, rng_get hi, .int _⟩
  · rw [rng_len]; exact Nat.le_refl _
def rg1 (x : D) (H : Hp3) (R : List D → (Hp3 → Prop) → Hp3 → Prop) : Prop := match x with
  | .int j => R (rng 0 j.toNat) (fun _ => True) H
  | _ => False
def rg2 (x y : D) (H : Hp3) (R : List D → (Hp3 → Prop) → Hp3 → Prop) : Prop := match x, y with
  | .int i, .int j => R (rng i (j - i).toNat) (fun _ => True) H
  | _, _ => False
def ir1 (ta : TE3) : TI3 := fun σ H R => ta σ H fun x H1 => rg1 x H1 R
def ir2 (ta tb : TE3) : TI3 := fun σ H R => ta σ H fun x H1 => tb σ H1 fun y H2 => rg2 x y H2 R
theorem i3_rng1 {tg a : Expr} {ta : TE3} {p pos : Pos} (hm : X.mg "range" = none) (ha : PE3 X a ta) (hg : Gl X "range" := by rfl) (hs : starEach [a] X.env = [(false, eval a X.env)] := by rfl) (hs' : starEach [a] X.env = (false, eval a X.env) :: starEach [] X.env := by rfl) : PI3 X tg (.Call (.Name "range" p) [a] [] pos) (ir1 ta) :=
  pi_imp (pj_range1 hg hm (a3_cons ha a3_nil hs') hs) fun _ _ _ ⟨σ3, H3, R3, sr, hr, t, k⟩ => by
    refine ⟨σ3, H3, fun ds H1 => (match ds with | [x] => rg1 x H1 R3 | _ => False), sr, hr, t, fun ds vs H3a Ha tka hra rs qa => ?_⟩
    cases rs with
    | nil => exact qa.elim
    | cons r1 r2 =>
      cases r2 with
      | cons _ _ => exact qa.elim
      | nil =>
        cases r1 with
        | int j => exact ⟨j, rfl, k _ _ _ _ _ tka hra itOk_rng qa⟩
        | _ => exact qa.elim
def fo3 (wi : TI3) (g : TG3) (tb : TS3) : TS3 := fun D σ H => wi σ H fun ds keep H1 => ∃ P : Nat → St3 → Hp3 → Prop, P 0 σ H1 ∧ (∀ i σ H, i ≤ ds.length → P i σ H → keep H) ∧
  (∀ i d σ H, ds[i]? = some d → P i σ H → g d σ H fun σ2 H2 => tb { D with nx := P (i + 1), ct := P (i + 1), bk := D.nx } σ2 H2) ∧ ∀ σ H, P ds.length σ H → D.nx σ H
theorem s3_for {tg iter : Expr} {body : List Stmt} {wi : TI3} {g : TG3} {tb : TS3} (hp : PassesOwn (model X.prog X.w) X.A X.env X.xe) (hc : X.calm = true) (hi : PI3 X tg iter wi) (hg : PG3 X tg g) (hb : PSs3 X body tb)
    (hs : ∀ x, foldedSetIterable iter X.env x = pure x := by intro _; rfl) : PS3 X (.For tg iter body [] pos) (fo3 wi g tb) :=
  ps_imp (ps_for hp hc hi hg hb hs) fun D σ H ⟨σ3, H3, D3, sr, hr, t, k⟩ => ⟨σ3, H3, _, sr, hr, t, fun ds keep J H3' H' tk' hr' ok q => by
    obtain ⟨P, p0, pk, pstep, pd⟩ := q
    refine ⟨fun i m σ1 H1 => m = ds.length - i ∧ i ≤ ds.length ∧ ∃ σ31 H31, TK H' H1 ∧ SR X.K H1 σ31 σ1 ∧ HR X.K H31 H1 ∧ P i σ31 H31, ⟨ds.length, by simp, Nat.zero_le _, σ3, H3', TK.refl, sr.mono tk', hr', p0⟩, ?_⟩
    rintro i m σ1 H1 ⟨rfl, hi, σ31, H31, tk1, sr1, hr1, p1⟩
    obtain ⟨go, stop⟩ := ok H31 H1 tk1 hr1 (pk i σ31 H31 hi p1)
    by_cases hlt : i < ds.length
    · obtain ⟨g1, g2⟩ := go i hlt
      refine .inr ⟨g1, fun σ' H'' => i + 1 ≤ ds.length ∧ ∃ σ3' H3'', TK H' H'' ∧ SR X.K H'' σ3' σ' ∧ HR X.K H3'' H'' ∧ P (i + 1) σ3' H3'', fun σ' H'' z => ⟨ds.length - (i + 1), by omega, rfl, z.1, z.2⟩, fun x H'' y => ?_⟩
      obtain ⟨tky, hry, d, ed, rd⟩ := g2 x H'' y
      refine ⟨d, σ31, H31, _, rd, sr1.mono tky, hry, pstep i d σ31 H31 ed p1, fun σ3b σb H3b Hb tkb srb hrb qb => ⟨σ3b, H3b, _, srb, hrb, qb, ?_⟩⟩
      have kk := k.mono (tk'.trans ((tk1.trans tky).trans tkb))
      exact ⟨fun σ3c σc H3c Hc tkc src hrc qc => ⟨hlt, σ3c, H3c, ((tk1.trans tky).trans tkb).trans tkc, src, hrc, qc⟩, kk.rt, kk.nx, fun σ3c σc H3c Hc tkc src hrc qc => ⟨hlt, σ3c, H3c, ((tk1.trans tky).trans tkb).trans tkc, src, hrc, qc⟩⟩
    · have e : i = ds.length := by omega
      subst e
      exact .inl ⟨stop, k.nx _ _ _ _ (tk'.trans tk1) sr1 hr1 (pd σ31 H31 p1)⟩⟩
end

/-! ### defs of the text -/
abbrev Sp3 := List D → Hp3 → VK3 → Prop
def liftF (K : PySem.W.Frag) (sp : Sp3) : Sp := fun vs H Q _ => liftC K sp vs H Q
structure Fn (P : Program) (w : World) (K : PySem.W.Frag) (mg : Str → Option Value) (base : Heap) (k : Nat) (x : Str) (ps : List Str) (sp : Sp3) : Prop where
  ex : ∃ f fd, FnOk P w K mg base CX0 k f fd ps (liftF K sp) ∧ mg x = some (.ref f) ∧ PySem.W.keepIn K (.ref f) = true ∧ Binds K fd ps []
theorem p3_call {X : Cx} {k : Nat} {x : Str} {ps : List Str} {sp : Sp3} {p pos : Pos} {e : Expr} {es : List Expr} {t : TA3} (F : Fn X.prog X.w X.K X.mg X.base k x ps sp) (hr : Room k X.A) (ha : PA3 X (e :: es) t)
    (hg : Gl X x := by rfl) (hdb : (x == ("__debug__" : Str)) = false := by decide) (he : starEach (e :: es) X.env = (false, eval e X.env) :: starEach es X.env := by rfl) (hpl : (backTo pos (starEach es X.env)).any (·.1) = false := by rfl) :
    PE3 X (.Call (.Name x p) (e :: es) [] pos) (cb3 sp t) := by
  obtain ⟨f, fd, F, hm, hk, hb⟩ := F.ex
  refine pe_imp (pe_call (E := E0) F hr hg hm hk hb .nil pass0 ha hdb he hpl) fun _ _ _ h => ?_
  obtain ⟨σ3, H3, Q3, sr, hr, t, k⟩ := h
  exact ⟨σ3, H3, _, sr, hr, t, fun ds vs H3a Ha tka hra rs qa => ⟨ds, H3a, Q3, hra, by rw [List.append_nil]; exact rs, qa, k.mono tka⟩⟩
def start3 (N : List Str) (ds : List D) : St3 := ds.map some ++ List.replicate (N.length - ds.length) none
theorem sr_start {K : PySem.W.Frag} {H : Hp} {N : List Str} {ds : List D} {vs : List V} (r : RepL K H ds vs) : SR K H (start3 N ds) (L2.start N vs) := by
  have hl := r.length
  refine ⟨by simp [start3, L2.start, hl], fun i d h => ?_⟩
  unfold start3 at h
  by_cases hi : i < ds.length
  · rw [List.getElem?_append_left (by simpa using hi), List.getElem?_map] at h
    cases e : ds[i]? with
    | none => rw [e] at h; cases h
    | some d' =>
      rw [e] at h
      cases h
      obtain ⟨v, hv, rv⟩ := r.get e
      refine ⟨v, ?_, rv⟩
      unfold L2.start
      rw [List.getElem?_append_left (by rw [List.length_map, ← hl]; exact hi), List.getElem?_map, hv]
      rfl
  · rw [List.getElem?_append_right (by simpa using hi), List.getElem?_replicate] at h
    split at h <;> cases h
/-- what is wanted behind a body: of the heap a part is enough -/
def fin3 (Q : VK3) : Ends3 := { nx := fun _ H' => ∃ H'', Sub3 H'' H' ∧ Q .non H'', rt := fun d H' => ∃ H'', Sub3 H'' H' ∧ Q d H'' }
theorem fnok3 {P : Program} {w : World} {K : PySem.W.Frag} {mg : Str → Option Value} {base : Heap} {x qual : Str} {st : Stmt} {f : Addr} {fd : FuncData} {N ps : List Str} {k : Nat} {sp : Sp3} (F : Fun K x qual st f fd) (S : FnScope N ps (defScope st))
    (len : ∀ ds H Q, sp ds H Q → ds.length = ps.length)
    (hbody : ∀ (cdv : Value) (A : Around) (outer : List Env) (s : Shared) (H : Hp) (E : XK), Room k (A.deeper (envOfC qual (defScope st) s.heap.objs.size f cdv)) →
      ∃ t, PSs3 (cxOf CX0 P w K mg base N qual (defScope st) f cdv A outer s H E).nox (defBody st) t ∧ ∀ ds H3 Q3, sp ds H3 Q3 → t (fin3 Q3) (start3 N ds) H3) : FnOk P w K mg base CX0 (k + 1) f fd ps (liftF K sp) := by
  refine F.ok S (fun vs H Q E h => ?_) (fun cdv A outer s H vs Q E hr h => ?_)
  · obtain ⟨ds, H3, Q3, _, rs, q, _⟩ := h
    rw [← rs.length]
    exact len ds H3 Q3 q
  · obtain ⟨ds, H3, Q3, hr3, rs, q, k⟩ := h
    obtain ⟨t, ht, hq⟩ := hbody cdv A outer s H E hr
    refine ⟨_, ht, start3 N ds, H3, _, sr_start rs, hr3, hq ds H3 Q3 q, ⟨fun σ3 σ H3' H' tk sr hr' z => ?_, fun d v H3' H' tk hr' rd z => ?_, fun _ _ _ _ _ _ _ z => z.elim, fun _ _ _ _ _ _ _ z => z.elim⟩⟩
    · obtain ⟨H'', sub, q'⟩ := z
      exact k _ _ _ _ tk (hr'.sub sub) .non q'
    · obtain ⟨H'', sub, q'⟩ := z
      exact k _ _ _ _ tk (hr'.sub sub) rd q'
theorem fn3 {P : Program} {w : World} {K : PySem.W.Frag} {mg : Str → Option Value} {base : Heap} {x qual : Str} {st : Stmt} {f : Addr} {fd : FuncData} {N ps : List Str} {k : Nat} {sp : Sp3} (F : Fun K x qual st f fd) (S : FnScope N ps (defScope st))
    (hm : mg x = some (.ref f)) (hb : Binds K fd ps []) (len : ∀ ds H Q, sp ds H Q → ds.length = ps.length)
    (hbody : ∀ (cdv : Value) (A : Around) (outer : List Env) (s : Shared) (H : Hp) (E : XK), Room k (A.deeper (envOfC qual (defScope st) s.heap.objs.size f cdv)) →
      ∃ t, PSs3 (cxOf CX0 P w K mg base N qual (defScope st) f cdv A outer s H E).nox (defBody st) t ∧ ∀ ds H3 Q3, sp ds H3 Q3 → t (fin3 Q3) (start3 N ds) H3) : Fn P w K mg base (k + 1) x ps sp :=
  ⟨f, fd, fnok3 F S len hbody, hm, F.kp, hb⟩
/-- the law's own call: the script is a frozen list of ints -/
theorem start_law {K : PySem.W.Frag} {sp : Sp3} {H : Hp} {a : Addr} {ns : List Int} {E : XK} (hO : Only H) (hS : SqL K H a (ns.map V.int)) (h : sp [.fl (ns.map D.int)] (fun _ => none) (fun d _ => d = .bl true)) : liftF K sp [.ref a] H (fun v _ => v = .bl true) E := by
  refine ⟨[.fl (ns.map D.int)], fun _ => none, fun d _ => d = .bl true, fun b o e => (by cases e), .cons (.fl ?_ (RepL.ints ns)) .nil, h, fun d v H3' H' tk hr rd q => ?_⟩
  · rcases hS with (z | z) | z
    · rcases hO a with q | ⟨o, xs, q⟩
      · rw [z] at q; cases q
      · rw [z] at q; cases q
    · exact .inl z
    · exact .inr z
  · subst q
    cases rd
    rfl
end L3

namespace L3
open PySem PySem.Spec PyProof.Rows L2
/-! ### equality of data -/
def mapO {α β : Type} (f : α → Option β) : List α → Option (List β)
  | [] => some []
  | d :: ds => match f d with
    | none => none
    | some p => match mapO f ds with
      | none => none
      | some ps => some (p :: ps)
def pyN : Nat → D → Option PyData
  | 0, d => match d with
    | .non => some .none
    | .bl b => some (.bool b)
    | .int i => some (.int i)
    | .str x => if PyData.strOk x = true then some (.str x) else none
    | _ => none
  | n + 1, d => match d with
    | .non => some .none
    | .bl b => some (.bool b)
    | .int i => some (.int i)
    | .str x => if PyData.strOk x = true then some (.str x) else none
    | .tup ds => (mapO (pyN n) ds).map .tuple
    | .ktup ds => (mapO (pyN n) ds).map .tuple
    | _ => none
def pyH (H : Hp3) (d : D) : Option PyData := match d with
  | .ref a => (match H a with
    | some (.lst ds) => (mapO (pyN 4) ds).map .list
    | _ => none)
  | .fl ds => (mapO (pyN 4) ds).map .list
  | d => pyN 5 d
section
variable {X : Cx} {pins : List (Addr × Obj)} {σ : St} {H : Hp} {s : Shared}
theorem vals_reads {f : D → Option PyData} {n : Nat} (hf : ∀ {d : D} {v : V} {u : Value} {p : PyData}, Rep X.K H d v → RelV v u → f d = some p → (∃ as, Reads s.heap u p as) ∧ p.canLay0 = true ∧ p.depth ≤ n) :
    ∀ {ds : List D} {vs : List V} {us : List Value} {ps : List PyData}, RepL X.K H ds vs → Vals vs us → mapO f ds = some ps → (∃ as, ReadsAll s.heap us ps as) ∧ PyData.canLayAll0 ps = true ∧ PyData.depthAll ps ≤ n
  | _, _, _, ps, .nil, .nil, h => by
    simp only [mapO, Option.some.injEq] at h
    subst h
    exact ⟨⟨[], .nil⟩, rfl, Nat.zero_le _⟩
  | _, _, _, ps, .cons r rs, .cons q qs, h => by
    simp only [mapO] at h
    split at h
    · cases h
    · rename_i p e1
      split at h
      · cases h
      · rename_i ps' e2
        cases h
        obtain ⟨⟨as, h1⟩, h2, h3⟩ := hf r q e1
        obtain ⟨⟨bs, g1⟩, g2, g3⟩ := vals_reads hf rs qs e2
        refine ⟨⟨_, .cons h1 g1⟩, ?_, ?_⟩
        · simp [PyData.canLayAll0, h2, g2]
        · simp only [PyData.depthAll]; omega
theorem rep_reads (I : Inv X pins σ H s) : ∀ (n : Nat) {d : D} {v : V} {u : Value} {p : PyData}, Rep X.K H d v → RelV v u → pyN n d = some p → (∃ as, Reads s.heap u p as) ∧ p.canLay0 = true ∧ p.depth ≤ n := by
  intro n
  induction n with
  | zero =>
    intro d v u p r q h
    cases r with
    | non => cases h; cases q; exact ⟨⟨_, .none⟩, rfl, Nat.zero_le _⟩
    | bl b => cases h; cases q; exact ⟨⟨_, .bool b⟩, rfl, Nat.zero_le _⟩
    | int i => cases h; obtain ⟨t, rfl⟩ := q; exact ⟨⟨_, .int i t⟩, rfl, Nat.zero_le _⟩
    | str x =>
      simp only [pyN] at h
      split at h
      · rename_i hx
        cases h; obtain ⟨t, rfl⟩ := q; exact ⟨⟨_, .str x t⟩, hx, Nat.zero_le _⟩
      · cases h
    | _ => cases h
  | succ n ih =>
    intro d v u p r q h
    cases r with
    | non => cases h; cases q; exact ⟨⟨_, .none⟩, rfl, Nat.zero_le _⟩
    | bl b => cases h; cases q; exact ⟨⟨_, .bool b⟩, rfl, Nat.zero_le _⟩
    | int i => cases h; obtain ⟨t, rfl⟩ := q; exact ⟨⟨_, .int i t⟩, rfl, Nat.zero_le _⟩
    | str x =>
      simp only [pyN] at h
      split at h
      · rename_i hx
        cases h; obtain ⟨t, rfl⟩ := q; exact ⟨⟨_, .str x t⟩, hx, Nat.zero_le _⟩
      · cases h
    | tup ha ra =>
      simp only [pyN, Option.map_eq_some_iff] at h
      obtain ⟨ps, h1, rfl⟩ := h
      cases q
      obtain ⟨its, rv, ⟨o, ho, hc, m, hd⟩, _⟩ := I.tuple (SqT.of ha)
      obtain ⟨⟨as, g1⟩, g2, g3⟩ := vals_reads (f := pyN n) (n := n) ih ra rv h1
      exact ⟨⟨_, .tuple ho hc hd (by simpa using g1)⟩, g2, by simp only [PyData.depth]; omega⟩
    | ktup ha ra =>
      simp only [pyN, Option.map_eq_some_iff] at h
      obtain ⟨ps, h1, rfl⟩ := h
      cases q
      obtain ⟨its, rv, ⟨o, ho, hc, m, hd⟩, _⟩ := I.tuple ha.sq
      obtain ⟨⟨as, g1⟩, g2, g3⟩ := vals_reads (f := pyN n) (n := n) ih ra rv h1
      exact ⟨⟨_, .tuple ho hc hd (by simpa using g1)⟩, g2, by simp only [PyData.depth]; omega⟩
    | _ => cases h
theorem pyH_reads (I : Inv X pins σ H s) {H3 : Hp3} (hr : HR X.K H3 H) {d : D} {v : V} {u : Value} {p : PyData} (r : Rep X.K H d v) (q : RelV v u) (h : pyH H3 d = some p) : (∃ as, Reads s.heap u p as) ∧ p.canLay0 = true ∧ p.depth ≤ 5 := by
  have lst : ∀ {a : Addr} {xs : List V} {ds : List D}, SqL X.K H a xs → RepL X.K H ds xs → (mapO (pyN 4) ds).map PyData.list = some p → (∃ as, Reads s.heap (.ref a) p as) ∧ p.canLay0 = true ∧ p.depth ≤ 5 := fun hq ra h => by
    simp only [Option.map_eq_some_iff] at h
    obtain ⟨ps, h1, rfl⟩ := h
    obtain ⟨its, rv, pl, _⟩ := I.list hq
    obtain ⟨o, ho, hc, m, hd⟩ := pl.isList
    obtain ⟨⟨as, g1⟩, g2, g3⟩ := vals_reads (f := pyN 4) (n := 4) (rep_reads I 4) ra rv h1
    exact ⟨⟨_, .list ho hc hd (by simpa using g1)⟩, g2, by simp only [PyData.depth]; omega⟩
  cases r with
  | ref a =>
    simp only [pyH] at h
    split at h
    · rename_i ds ha
      obtain ⟨vs, ga, ra⟩ := hr a _ ha
      cases q
      exact lst (SqL.of ga) ra h
    · cases h
  | fl ha ra => cases q; exact lst ha.sq ra h
  | non => exact rep_reads I 5 .non q h
  | bl b => exact rep_reads I 5 (.bl b) q h
  | int b => exact rep_reads I 5 (.int b) q h
  | str b => exact rep_reads I 5 (.str b) q h
  | ty b => exact rep_reads I 5 (.ty b) q h
  | tup a b => exact rep_reads I 5 (.tup a b) q h
  | ktup a b => exact rep_reads I 5 (.ktup a b) q h
end
def r3eq : R3 := fun x y H Q => match pyH H x, pyH H y with
  | some p, some q => Q (.bl (PyData.eqv p q)) H
  | _, _ => False
def r3ne : R3 := fun x y H Q => match pyH H x, pyH H y with
  | some p, some q => Q (.bl (!PyData.eqv p q)) H
  | _, _ => False
section
variable {X : Cx}
theorem op3_eq (hu : X.A.units + 64 < cLine) : OpR X (compareOp .Eq) (lift2 X.K r3eq) := by
  intro pins s σ H x y v u Q I rx ry h
  obtain ⟨dx, dy, H3, Q3, hr, rdx, rdy, t, k⟩ := h
  simp only [r3eq] at t
  split at t
  · rename_i p q e1 e2
    obtain ⟨⟨as, h1⟩, h2, h3⟩ := pyH_reads I hr rdx rx e1
    obtain ⟨⟨bs, g1⟩, g2, g3⟩ := pyH_reads I hr rdy ry e2
    exact SeqAt.compareEq_reads h1 g1 h2 g2 (by have := Nat.min_le_left p.depth q.depth; omega) ⟨.bl _, H, I, rfl, k _ _ _ _ TK.refl hr (.bl _) t⟩
  · exact t.elim
theorem op3_ne (hu : X.A.units + 64 < cLine) : OpR X (compareOp .NotEq) (lift2 X.K r3ne) := by
  intro pins s σ H x y v u Q I rx ry h
  obtain ⟨dx, dy, H3, Q3, hr, rdx, rdy, t, k⟩ := h
  simp only [r3ne] at t
  split at t
  · rename_i p q e1 e2
    obtain ⟨⟨as, h1⟩, h2, h3⟩ := pyH_reads I hr rdx rx e1
    obtain ⟨⟨bs, g1⟩, g2, g3⟩ := pyH_reads I hr rdy ry e2
    exact SeqAt.compareNe_reads h1 g1 h2 g2 (by have := Nat.min_le_left p.depth q.depth; omega) ⟨.bl _, H, I, rfl, k _ _ _ _ TK.refl hr (.bl _) t⟩
  · exact t.elim
/-! ### in -/
/-- the items of a list or tuple -/
def seqH (H : Hp3) (d : D) : Option (List D) := match d with
  | .ref a => (match H a with
    | some (.lst ds) => some ds
    | _ => none)
  | .fl ds => some ds
  | .tup ds => some ds
  | _ => none
def r3in (neg : Bool) : R3 := fun x y H Q => match pyN 4 x, (seqH H y).bind (mapO (pyN 4)) with
  | some p, some ps => Q (.bl (if neg then !ps.any (fun q => PyData.eqv q p) else ps.any fun q => PyData.eqv q p)) H
  | _, _ => False
open Classical in
noncomputable def inE (h : Heap) (p : PyData) (u : Value) : Bool := decide (∃ q as, Reads h u q as ∧ q.canLay0 = true ∧ PyData.eqv q p = true)
open Classical in
theorem inE_eq {h : Heap} {p q : PyData} {u : Value} {as : List Addr} (r : Reads h u q as) (c : q.canLay0 = true) : inE h p u = PyData.eqv q p := by
  unfold inE
  cases e : PyData.eqv q p with
  | true => exact decide_eq_true ⟨q, as, r, c, e⟩
  | false =>
    refine decide_eq_false fun z => ?_
    obtain ⟨q', as', r', c', e'⟩ := z
    have z := SeqAt.Reads.unique q q' u as as' c r r'
    subst z
    rw [e] at e'
    cases e'
theorem in_items {pins : List (Addr × Obj)} {σ : St} {H : Hp} {s : Shared} (I : Inv X pins σ H s) (p : PyData) :
    ∀ {ds : List D} {vs : List V} {us : List Value} {ps : List PyData}, RepL X.K H ds vs → Vals vs us → mapO (pyN 4) ds = some ps →
      us.any (inE s.heap p) = ps.any (fun q => PyData.eqv q p) ∧ ∀ u ∈ us, ∃ q as, Reads s.heap u q as ∧ q.canLay0 = true ∧ q.depth ≤ 4
  | _, _, _, ps, .nil, .nil, h => by
    simp only [mapO, Option.some.injEq] at h
    subst h
    exact ⟨rfl, fun _ z => nomatch z⟩
  | _, _, _, ps, .cons r rs, .cons q qs, h => by
    simp only [mapO] at h
    split at h
    · cases h
    · rename_i p' e1
      split at h
      · cases h
      · rename_i ps' e2
        cases h
        obtain ⟨⟨as, h1⟩, h2, h3⟩ := rep_reads I 4 r q e1
        obtain ⟨g1, g2⟩ := in_items I p rs qs e2
        refine ⟨by rw [List.any_cons, List.any_cons, inE_eq h1 h2, g1], fun u hu => ?_⟩
        rcases List.mem_cons.mp hu with e | hu
        · rw [e]; exact ⟨_, _, h1, h2, h3⟩
        · exact g2 u hu
theorem in_at {A : Around} {pins : List (Addr × Obj)} {σ : St} {H : Hp} {s : Shared} (I : Inv X pins σ H s) (hu : A.units + 8 < cLine) {x : D} {vx : V} {ux : Value} {p : PyData} (rx : Rep X.K H x vx) (qx : RelV vx ux) (ex : pyN 4 x = some p)
    {us : List Value} (h : ∀ u ∈ us, ∃ q as, Reads s.heap u q as ∧ q.canLay0 = true ∧ q.depth ≤ 4) : ∀ u, u ∈ us.toArray → SeqAt.EqAt A s u ux (inE s.heap p u) := fun u hm => by
  obtain ⟨q, as, h1, h2, h3⟩ := h u (by simpa using hm)
  obtain ⟨⟨bs, g1⟩, g2, g3⟩ := rep_reads I 4 rx qx ex
  rw [inE_eq h1 h2]
  exact SeqAt.eqAt_reads _ _ A s _ _ _ _ h1 g1 h2 g2 (by have := Nat.min_le_left q.depth p.depth; omega)
theorem in1_units {A : Around} (h : A.units + 64 < cLine) : A.in1.units + 8 < cLine := by
  have e : A.in1.units = A.units + 1 := rfl
  omega
theorem op3_in (hu : X.A.units + 64 < cLine) : OpR X (compareOp .In) (lift2 X.K (r3in false)) := by
  intro pins s σ H x y v u Q I rx ry h
  obtain ⟨dx, dy, H3, Q3, hr, rdx, rdy, t, k⟩ := h
  simp only [r3in] at t
  split at t
  · rename_i p ps e1 e2
    simp only [Option.bind_eq_some_iff] at e2
    obtain ⟨ds, e2, e3⟩ := e2
    have fin := k _ _ _ _ TK.refl hr (.bl _) t
    cases rdy with
    | ref a =>
      simp only [seqH] at e2
      split at e2
      · rename_i ds' ha
        cases e2
        obtain ⟨vs, ga, ra⟩ := hr a _ ha
        cases ry
        obtain ⟨its, rv, pl, _⟩ := I.list (SqL.of ga)
        obtain ⟨g1, g2⟩ := in_items I p ra rv e3
        refine SeqAt.in_listAt (inE s.heap p) pl.isList (in_at I (in1_units hu) rdx rx e1 g2) ⟨.bl _, H, I, rfl, ?_⟩
        rw [show its.toArray.any (inE s.heap p) = its.any (inE s.heap p) by simp, g1]
        exact fin
      · cases e2
    | fl ha ra =>
      cases e2
      cases ry
      obtain ⟨its, rv, pl, _⟩ := I.list ha.sq
      obtain ⟨g1, g2⟩ := in_items I p ra rv e3
      refine SeqAt.in_listAt (inE s.heap p) pl.isList (in_at I (in1_units hu) rdx rx e1 g2) ⟨.bl _, H, I, rfl, ?_⟩
      rw [show its.toArray.any (inE s.heap p) = its.any (inE s.heap p) by simp, g1]
      exact fin
    | tup ha ra =>
      cases e2
      cases ry
      obtain ⟨its, rv, pl, _⟩ := I.tuple (SqT.of ha)
      obtain ⟨g1, g2⟩ := in_items I p ra rv e3
      refine SeqAt.in_tupleAt (inE s.heap p) pl (in_at I (in1_units hu) rdx rx e1 g2) ⟨.bl _, H, I, rfl, ?_⟩
      rw [show its.toArray.any (inE s.heap p) = its.any (inE s.heap p) by simp, g1]
      exact fin
    | _ => cases e2
  · exact t.elim
theorem op3_notIn (hu : X.A.units + 64 < cLine) : OpR X (compareOp .NotIn) (lift2 X.K (r3in true)) := by
  intro pins s σ H x y v u Q I rx ry h
  obtain ⟨dx, dy, H3, Q3, hr, rdx, rdy, t, k⟩ := h
  simp only [r3in] at t
  split at t
  · rename_i p ps e1 e2
    simp only [Option.bind_eq_some_iff] at e2
    obtain ⟨ds, e2, e3⟩ := e2
    have fin := k _ _ _ _ TK.refl hr (.bl _) t
    cases rdy with
    | ref a =>
      simp only [seqH] at e2
      split at e2
      · rename_i ds' ha
        cases e2
        obtain ⟨vs, ga, ra⟩ := hr a _ ha
        cases ry
        obtain ⟨its, rv, pl, _⟩ := I.list (SqL.of ga)
        obtain ⟨g1, g2⟩ := in_items I p ra rv e3
        refine SeqAt.notIn_listAt (inE s.heap p) pl.isList (in_at I (in1_units hu) rdx rx e1 g2) ⟨.bl _, H, I, rfl, ?_⟩
        rw [show its.toArray.any (inE s.heap p) = its.any (inE s.heap p) by simp, g1]
        exact fin
      · cases e2
    | fl ha ra =>
      cases e2
      cases ry
      obtain ⟨its, rv, pl, _⟩ := I.list ha.sq
      obtain ⟨g1, g2⟩ := in_items I p ra rv e3
      refine SeqAt.notIn_listAt (inE s.heap p) pl.isList (in_at I (in1_units hu) rdx rx e1 g2) ⟨.bl _, H, I, rfl, ?_⟩
      rw [show its.toArray.any (inE s.heap p) = its.any (inE s.heap p) by simp, g1]
      exact fin
    | tup ha ra =>
      cases e2
      cases ry
      obtain ⟨its, rv, pl, _⟩ := I.tuple (SqT.of ha)
      obtain ⟨g1, g2⟩ := in_items I p ra rv e3
      refine SeqAt.notIn_tupleAt (inE s.heap p) pl (in_at I (in1_units hu) rdx rx e1 g2) ⟨.bl _, H, I, rfl, ?_⟩
      rw [show its.toArray.any (inE s.heap p) = its.any (inE s.heap p) by simp, g1]
      exact fin
    | _ => cases e2
  · exact t.elim

/-! ### isinstance -/
def tyH (H : Hp3) (d : D) : Option String := match d with
  | .non => some "NoneType"
  | .bl _ => some "bool"
  | .int _ => some "int"
  | .str _ => some "str"
  | .tup _ => some "tuple"
  | .fl _ => some "list"
  | .ref a => (match H a with
    | some (.lst _) => some "list"
    | some (.dic _) => some "dict"
    | some (.ins _ _) => none
    | some (.exc _) => none
    | none => none)
  | .ty _ => none
  | .ktup _ => some "tuple"
def isT (U T : String) : Bool := U == T || (U == "bool" && T == "int")
def kinds : List String := ["int", "bool", "str", "tuple", "list", "dict"]
def r3isi : List D → Hp3 → VK3 → Prop := fun ds H Q => match ds with
  | [x, .ty T] => (match tyH H x with
    | some U => T ∈ kinds ∧ Q (.bl (isT U T)) H
    | none => False)
  | _ => False
theorem kit_ok (K : PySem.W.Frag) (U T : String) (hU : U ∈ "NoneType" :: kinds) (hT : T ∈ kinds) : PySem.W.kitOne K (.type U) (.type T) = some (isT U T) := by
  simp only [kinds, List.mem_cons, List.not_mem_nil, or_false] at hU hT
  rcases hU with rfl | rfl | rfl | rfl | rfl | rfl | rfl <;> rcases hT with rfl | rfl | rfl | rfl | rfl | rfl <;> kernel_rfl
theorem cb3_isi : CallR X (.builtin "isinstance") (liftC X.K r3isi) := by
  intro pins s σ H xs us Q I rs h
  obtain ⟨ds, H3, Q3, hr, rd, t, k⟩ := h
  cases rd with
  | nil => exact t.elim
  | cons r1 r2 =>
    cases r2 with
    | nil => cases r1 <;> exact t.elim
    | cons r2 r3 =>
      cases r3 with
      | cons _ _ => cases r1 <;> cases r2 <;> exact t.elim
      | nil =>
        cases r2 with
        | ty T =>
          obtain ⟨u, w, rfl, ru, rw'⟩ := vals2 rs
          obtain rfl : w = Value.type T := rw'
          simp only [r3isi] at t
          split at t
          · rename_i U eU
            obtain ⟨hT, t⟩ := t
            have fin : ∀ tk, EP X pins σ Q (.bool (isT U T)) { s with toks := tk } := fun tk => ⟨.bl _, H, I.tok tk, rfl, k _ _ _ _ TK.refl hr (.bl _) t⟩
            have e : ∀ (hU : U ∈ "NoneType" :: kinds), PySem.W.kitOne X.K (.type U) (.type T) = some (isT U T) := fun hU => kit_ok X.K U T hU hT
            cases r1 with
            | non => cases eU; exact isinst_ok I ru (.non) (e (by simp)) fin
            | bl b => cases eU; exact isinst_ok I ru (.bl b) (e (by simp [kinds])) fin
            | int b => cases eU; exact isinst_ok I ru (.int b) (e (by simp [kinds])) fin
            | str b => cases eU; exact isinst_ok I ru (.str b) (e (by simp [kinds])) fin
            | ty b => cases eU
            | tup ha ra =>
              cases eU
              cases ru
              obtain ⟨its, _, ⟨o, h1, h2, _⟩, _⟩ := I.tuple (SqT.of ha)
              exact PySem.W.kia_one PySem.W.kitx_tuple I.kIn ⟨o, h1, h2⟩ (e (by simp [kinds])) (fun z => nomatch z) fin
            | ktup ha ra =>
              cases eU
              cases ru
              obtain ⟨its, _, ⟨o, h1, h2, _⟩, _⟩ := I.tuple ha.sq
              exact PySem.W.kia_one PySem.W.kitx_tuple I.kIn ⟨o, h1, h2⟩ (e (by simp [kinds])) (fun z => nomatch z) fin
            | fl ha ra =>
              cases eU
              cases ru
              obtain ⟨its, _, pl, _⟩ := I.list ha.sq
              obtain ⟨o, h1, h2, _⟩ := pl.isList
              exact PySem.W.kia_one PySem.W.kitx_list I.kIn ⟨o, h1, h2⟩ (e (by simp [kinds])) (fun z => nomatch z) fin
            | ref a =>
              simp only [tyH] at eU
              split at eU
              · rename_i ds ha
                cases eU
                obtain ⟨vs, ga, ra⟩ := hr a _ ha
                exact isinst_ok I ru (.lst ga) (e (by simp [kinds])) fin
              · rename_i ds ha
                cases eU
                obtain ⟨vs, ga, ra⟩ := hr a _ ha
                exact isinst_ok I ru (.dT ga) (e (by simp [kinds])) fin
              · cases eU
              · cases eU
              · cases eU
          · exact t.elim
        | _ => cases r1 <;> exact t.elim

/-! ### a list's methods -/
def m3 (r : D → List D → Hp3 → VK3 → Prop) (to : TE3) (t : TA3) : TE3 := fun σ H Q => to σ H fun x H1 => (match x with
  | .ref a => (match H1 a with
    | some (.lst _) => t σ H1 fun xs H2 => r x xs H2 Q
    | _ => False)
  | _ => False)
theorem p3_bm {o e : Expr} {es : List Expr} {to : TE3} {t : TA3} {name : Str} {apos cpos : Pos} {id : String} {r : D → List D → Hp3 → VK3 → Prop} (slot : Slot "list" name id) (hty : typeOf (.builtin id) = pure (.type "method_descriptor")) (hm : MtR X id (liftM X.K r)) (ho : PE3 X o to) (ha : PA3 X (e :: es) t)
    (hbase : attributeBase o name X.env (eval o X.env) = eval o X.env := by rfl)
    (hfew : ((backTo cpos (starEach (e :: es) X.env)).all (fun x => !x.1) && (backToKw cpos (keywordEach [] X.env)).all (fun x => x.1.isSome)
      && decide ((e :: es).length + ([] : List Keyword).length + (if ([] : List Keyword).isEmpty then 0 else 1) < 30)) = true := by rfl)
    (hline : (apos.endLine == cpos.line) = true := by rfl) (hs : starEach (e :: es) X.env = (false, eval e X.env) :: starEach es X.env := by rfl) (hplain : (backTo cpos (starEach es X.env)).any (·.1) = false := by rfl) :
    PE3 X (.Call (.Attribute o name apos) (e :: es) [] cpos) (m3 r to t) :=
  pe_imp (pe_bm PySem.F.plainAttrs_list slot hty hm ho ha hbase hfew hline hs hplain) fun _ _ _ ⟨σ3, H3, Q3, sr, hr, t, k⟩ => ⟨σ3, H3, _, sr, hr, t, fun x v H3a Ha tka hra rx qa => by
    cases rx with
    | ref a =>
      simp only [] at qa
      split at qa
      · rename_i ds ha
        obtain ⟨vs, ga, ra⟩ := hra a _ ha
        exact ⟨.inl ⟨rfl, vs, SqL.of ga⟩, σ3, H3a, _, sr.mono tka, hra, qa, fun ds us H3b Hb tkb hrb rs qb => ⟨.ref a, ds, H3b, Q3, hrb, .ref a, rs, qb, k.mono (tka.trans tkb)⟩⟩
      · exact qa.elim
    | _ => exact qa.elim⟩
theorem p3_bm0 {o : Expr} {to : TE3} {name : Str} {apos cpos : Pos} {id : String} {r : D → List D → Hp3 → VK3 → Prop} (slot : Slot "list" name id) (hty : typeOf (.builtin id) = pure (.type "method_descriptor")) (hm : MtR X id (liftM X.K r)) (ho : PE3 X o to)
    (hbase : attributeBase o name X.env (eval o X.env) = eval o X.env := by rfl) (hline : (apos.endLine == cpos.line) = true := by rfl) :
    PE3 X (.Call (.Attribute o name apos) [] [] cpos) (m3 r to nil3) :=
  pe_imp (pe_bm0 PySem.F.plainAttrs_list slot hty hm ho hbase hline) fun _ _ _ ⟨σ3, H3, Q3, sr, hr, t, k⟩ => ⟨σ3, H3, _, sr, hr, t, fun x v H3a Ha tka hra rx qa => by
    cases rx with
    | ref a =>
      simp only [] at qa
      split at qa
      · rename_i ds ha
        obtain ⟨vs, ga, ra⟩ := hra a _ ha
        exact ⟨.inl ⟨rfl, vs, SqL.of ga⟩, .ref a, [], H3a, Q3, hra, .ref a, .nil, qa, k.mono tka⟩
      · exact qa.elim
    | _ => exact qa.elim⟩
def r3app : D → List D → Hp3 → VK3 → Prop := fun x xs H Q => match x, xs with
  | .ref a, [y] => (match H a with
    | some (.lst ds) => ds.length < sizeLine ∧ Q .non (upd3 H a (.lst (ds ++ [y])))
    | _ => False)
  | _, _ => False
theorem mt3_app : MtR X "list.append" (liftM X.K r3app) := by
  intro pins s σ H x xs v us Q I rx rs h
  obtain ⟨d, ds, H3, Q3, hr, rd, rds, t, k⟩ := h
  cases rd with
  | ref a =>
    cases rds with
    | nil => exact t.elim
    | cons r1 r2 =>
      cases r2 with
      | cons _ _ => exact t.elim
      | nil =>
        simp only [r3app] at t
        split at t
        · rename_i ds ha
          obtain ⟨vs, ga, ra⟩ := hr a _ ha
          exact mt_append pins s σ H _ _ v us Q I rx rs ⟨a, vs, _, rfl, rfl, ga, by rw [← ra.length]; exact t.1, k _ _ _ _ (TK.lst ga) (hr.setL (TK.lst ga) ((ra.snoc r1).mono (TK.lst ga))) .non t.2⟩
        · exact t.elim
  | _ => exact t.elim
def r3clr : D → List D → Hp3 → VK3 → Prop := fun x xs H Q => match x, xs with
  | .ref a, [] => (match H a with
    | some (.lst _) => Q .non (upd3 H a (.lst []))
    | _ => False)
  | _, _ => False
theorem mt3_clr : MtR X "list.clear" (liftM X.K r3clr) := by
  intro pins s σ H x xs v us Q I rx rs h
  obtain ⟨d, ds, H3, Q3, hr, rd, rds, t, k⟩ := h
  cases rd with
  | ref a =>
    cases rds with
    | cons _ _ => exact t.elim
    | nil =>
      simp only [r3clr] at t
      split at t
      · rename_i ds ha
        obtain ⟨vs, ga, ra⟩ := hr a _ ha
        exact mt_clear pins s σ H _ _ v us Q I rx rs ⟨a, vs, rfl, rfl, ga, k _ _ _ _ (TK.lst ga) (hr.setL (TK.lst ga) (.nil)) .non t⟩
      · exact t.elim
  | _ => exact t.elim
end
end L3

namespace L3
open PySem PySem.Spec PyProof.Rows L2
/-! ### list comprehensions -/
/-- the cells that a block takes with it -/
theorem closure_ok {scope : Scope} {env : Env} (h : ∀ y, (y, NameKind.free) ∈ scope.names → ∃ c, env.cells.lookup y = some c) :
    ∃ cl, closureFor scope env = pure cl ∧ (∀ y c, cl.lookup y = some c → env.cells.lookup y = some c) ∧ ∀ y, (y, NameKind.free) ∈ scope.names → ∃ c, cl.lookup y = some c := by
  have go : ∀ (names : List (Str × NameKind)) (cs : List (Str × Addr)), (∀ y, (y, NameKind.free) ∈ names → ∃ c, env.cells.lookup y = some c) → (∀ y c, cs.lookup y = some c → env.cells.lookup y = some c) →
      ∃ cl, (forIn (m := Sem) names cs fun (x : Str × NameKind) r => match x with
        | (name, kind) => if (kind == NameKind.free) = true then do let c ← cellOf env name; pure (ForInStep.yield ((name, c) :: r)) else pure (ForInStep.yield r)) = pure cl ∧
        (∀ y c, cl.lookup y = some c → env.cells.lookup y = some c) ∧ (∀ y, (y, NameKind.free) ∈ names → ∃ c, cl.lookup y = some c) ∧ ∀ y c, cs.lookup y = some c → ∃ c', cl.lookup y = some c' := by
    intro names
    induction names with
    | nil => intro cs _ h2; exact ⟨cs, rfl, h2, (fun _ z => nomatch z), fun y c e => ⟨c, e⟩⟩
    | cons x r ih =>
      intro cs h1 h2
      obtain ⟨n, k⟩ := x
      by_cases hk : k = NameKind.free
      · subst hk
        obtain ⟨c, hc⟩ := h1 n List.mem_cons_self
        have ec : cellOf env n = pure c := by unfold cellOf; rw [hc]
        have h2' : ∀ y c', ((n, c) :: cs).lookup y = some c' → env.cells.lookup y = some c' := fun y c' e => by
          rw [List.lookup_cons] at e
          split at e
          · rename_i he
            cases e
            rw [eq_of_beq he]; exact hc
          · exact h2 y c' e
        obtain ⟨cl, e1, e2, e3, e4⟩ := ih ((n, c) :: cs) (fun y hy => h1 y (List.mem_cons_of_mem _ hy)) h2'
        have hn : ∃ c', cl.lookup n = some c' := e4 n c (by rw [List.lookup_cons]; simp)
        refine ⟨cl, ?_, e2, fun y hy => ?_, fun y c' e => ?_⟩
        · rw [List.forIn_cons]
          simp only [beq_self_eq_true, if_true, ec]
          exact e1
        · rcases List.mem_cons.mp hy with z | z
          · cases z; exact hn
          · exact e3 y z
        · by_cases hy : y = n
          · rw [hy]; exact hn
          · exact e4 y c' (by rw [List.lookup_cons, beq_eq_false_iff_ne.mpr hy]; exact e)
      · have hb : (k == NameKind.free) = false := by simpa using hk
        obtain ⟨cl, e1, e2, e3, e4⟩ := ih cs (fun y hy => h1 y (List.mem_cons_of_mem _ hy)) h2
        refine ⟨cl, ?_, e2, fun y hy => ?_, e4⟩
        · rw [List.forIn_cons]
          simp only [hb, Bool.false_eq_true, if_false]
          exact e1
        · rcases List.mem_cons.mp hy with z | z
          · cases z; exact absurd rfl hk
          · exact e3 y z
  obtain ⟨cl, e1, e2, e3, _⟩ := go scope.names [] h (fun _ _ e => by simp at e)
  refine ⟨cl, ?_, e2, e3⟩
  unfold closureFor
  refine Eq.trans (congrArg (fun t => t >>= fun cs => pure cs) e1) ?_
  rfl

theorem comp_loop {prog : Program} {w : World} {A : Around} {R : Result → Shared → Prop} {s : Shared} {elt target iter : Expr} {ifs : List Expr} {scope : Scope} {pos : Pos} {it acc : Value} {env : Env} (I : Nat → Shared → Prop)
    (turn : ∀ n s, I n s → wpAny (model prog w) A (pyNext it) (fun r s₁ => match r with
      | none => R (.ok .next) s₁
      | some v => wpAny (model prog w) A (letOwnedTupleGo target it v) (fun _ s₁' => wpAny (model prog w) A (assign target env v) (fun _ s₂ =>
          wpAny (model prog w) A (forIn ifs true fun c r => if r = true then do let ok ← isTrue c env (eval c env); pure (ForInStep.yield ok) else pure (ForInStep.yield r)) (fun ok s₃ =>
            if ok = true then wpAny (model prog w) A (eval elt env) (fun x s₄ =>
              wpAny (model prog w) A (call (.builtin "list.append") [acc, x]) (fun _ s₅ => ∃ m, m < n ∧ I m s₅) (fun _ _ => False) s₄) (fun _ _ => False) s₃
            else ∃ m, m < n ∧ I m s₃) (fun _ _ => False) s₂) (fun _ _ => False) s₁') (fun _ _ => False) s₁) (fun _ _ => False) s)
    (n : Nat) (h : I n s) :
    codeAny (model prog w) A (.compLoop (.ListComp elt [⟨target, iter, ifs, 0⟩] scope pos) 0 it acc env) R s := by
  refine codeAny_loop rfl I (fun n s hI => ?_) n h
  show wpAny _ A ((compTurn (.ListComp elt [⟨target, iter, ifs, 0⟩] scope pos) 0 it acc env).onRaise (fun x => do noteFrame x env; theTreesLotGoes x)) _ _ s
  refine wpAny_noted ?_
  rw [compTurn_list]
  refine wpAny_bind (wpAny_standAt (wpAny_bind (wpAny_mono (turn n s hI) (fun r s₁ h₁ => ?_) fun _ _ h' => h'.elim)))
  cases r with
  | none => exact wpAny_pure h₁
  | some v =>
    refine wpAny_bind (wpAny_mono h₁ (fun _ s₁' h₁' => ?_) fun _ _ h' => h'.elim)
    refine wpAny_bind (wpAny_mono h₁' (fun _ s₂ h₂ => wpAny_bind (wpAny_mono h₂ (fun ok s₃ h₃ => ?_) fun _ _ h' => h'.elim)) fun _ _ h' => h'.elim)
    cases ok with
    | false => exact wpAny_pure ⟨rfl, h₃⟩
    | true =>
      exact wpAny_bind (wpAny_bind (wpAny_mono h₃ (fun x s₄ h₄ => wpAny_bind (wpAny_mono h₄ (fun _ s₅ h₅ => wpAny_pure (wpAny_pure ⟨rfl, h₅⟩)) fun _ _ h' => h'.elim)) fun _ _ h' => h'.elim))

/-- the block's context: own names N', entered at s₁ with the heap H₁; fp: what the iterator is made of; pins: what must stand -/
def cxC (X : Cx) (N' : List Str) (scope : Scope) (cl : List (Str × Addr)) (s₁ : Shared) (H₁ : Hp) (fp : List Addr) (pins : List (Addr × Obj)) : Cx where
  prog := X.prog
  w := X.w
  K := X.K
  mg := X.mg
  base := X.base
  A := X.A
  N := N'
  s₀ := s₁
  H₀ := H₁
  env := compEnvC scope cl s₁.heap.objs.size X.env
  outer := X.stack
  stack := X.stack
  ex := fp
  fn := fun _ => false
  calm := X.calm
  pn := X.pn ++ pins
  xe := fun _ _ => False

/-- the names that the block reads from the def round it: slot of the def, name -/
abbrev FV := List (Nat × Str)
/-- the kinds of the block's names, by the def's scope round it -/
def relS (scope sc : Scope) : Scope := { scope with names := scope.names.map fun (n, k) => if (k == .free && sc.kind == .function && sc.names.lookup n == some .cell) then (n, .cell) else (n, k) }
structure CompOk (sc : Scope) (N : List Str) (scope : Scope) (N' : List Str) (own : List Str) (fv : FV) : Prop where
  kind : scope.kind = .function
  nocell : ∀ y ∈ scope.names, y.2 ≠ .cell
  loc : ∀ y ∈ scope.names, y.2 = .local → scope.names.lookup y.1 = some .local
  fre' : ∀ y ∈ scope.names, y.2 = .free → sc.names.lookup y.1 = some .cell
  eqN : N' = own ++ fv.map (·.2)
  nd : N'.Nodup
  slot : ∀ p ∈ fv, N[p.1]? = some p.2 ∧ sc.names.lookup p.2 = some .cell ∧ (relS scope sc).names.lookup p.2 = some .cell
theorem CompOk.fre {sc scope : Scope} {N N' own : List Str} {fv : FV} (c : CompOk sc N scope N' own fv) : ∀ y, (y, NameKind.free) ∈ scope.names → sc.names.lookup y = some .cell := fun y hy => c.fre' _ hy rfl

/-- the frame of the block at its start: own names unset, the others as round it -/
def blk (own : List Str) (fv : FV) (σ : St) : St := own.map (fun _ => none) ++ fv.map fun p => (σ[p.1]?).join

theorem rel_lookup {scope : Scope} {env : Env} : ∀ {names : List (Str × NameKind)} {y : Str} {k : NameKind},
    (names.map fun (n, k) => if (k == NameKind.free && env.scope.kind == .function && env.kindOf n == some .cell) then (n, NameKind.cell) else (n, k)).lookup y = some k → k = .cell ∨ k = .free → (∀ z ∈ names, z.2 ≠ .cell) → (y, NameKind.free) ∈ names
  | [], _, _, h, _, _ => by simp at h
  | (n, k0) :: r, y, k, h, hk, hc => by
    rw [List.map_cons] at h
    by_cases hf : k0 = NameKind.free
    · by_cases hy : y = n
      · subst hy; subst hf; exact List.mem_cons_self
      · refine List.mem_cons_of_mem _ (rel_lookup (env := env) (scope := scope) (k := k) ?_ hk fun z hz => hc z (List.mem_cons_of_mem _ hz))
        dsimp only at h
        have hyb : (y == n) = false := beq_eq_false_iff_ne.mpr hy
        split at h <;> (rw [List.lookup_cons, hyb] at h; exact h)
    · have hb : (k0 == NameKind.free) = false := by simpa using hf
      simp only [hb, Bool.false_and, Bool.false_eq_true, if_false] at h
      rw [List.lookup_cons] at h
      by_cases hy : y = n
      · subst hy
        simp only [beq_self_eq_true] at h
        cases h
        rcases hk with z | z
        · exact absurd z (hc _ List.mem_cons_self)
        · exact absurd z hf
      · have hyb : (y == n) = false := beq_eq_false_iff_ne.mpr hy
        rw [hyb] at h
        exact List.mem_cons_of_mem _ (rel_lookup (env := env) (scope := scope) (k := k) h hk fun z hz => hc z (List.mem_cons_of_mem _ hz))

section
variable {X : Cx} {pins : List (Addr × Obj)} {σ : St} {H₁ : Hp} {s₁ s₂ : Shared} {scope : Scope} {cl : List (Str × Addr)} {N' own : List Str} {fv : FV} {fp : List Addr}
theorem cxC_ok (I : Inv X pins σ H₁ s₁) (c : CompOk X.env.scope X.N scope N' own fv) (h1 : ∀ y c, cl.lookup y = some c → X.env.cells.lookup y = some c) (h2 : ∀ y, (y, NameKind.free) ∈ scope.names → ∃ c, cl.lookup y = some c)
    (hf : ∀ b ∈ fp, FpOk X pins H₁ b ∧ b < s₁.heap.objs.size) : (cxC X N' scope cl s₁ H₁ fp pins).Ok where
  mod := I.ok.mod
  kind := c.kind
  glob := I.ok.glob
  blt := I.ok.blt
  above := Nat.le_refl _
  inj := fun x y a e1 e2 => I.ok.inj x y a (h1 x a e1) (h1 y a e2)
  has := fun x hx => by
    have hx' : (relabel scope X.env).names.lookup x = some .cell ∨ (relabel scope X.env).names.lookup x = some .free := hx
    rcases hx' with z | z
    · exact h2 x (rel_lookup (scope := scope) (env := X.env) z (.inl rfl) c.nocell)
    · exact h2 x (rel_lookup (scope := scope) (env := X.env) z (.inr rfl) c.nocell)
  cab := fun x a e => by cases e
  hd := I.ok.hd
  frames := I.ok.frames
  stk := .inl rfl
  exf := fun b hb => ⟨Nat.ne_of_lt (hf b hb).2, fun x a e => (hf b hb).1.2.2.2.2.1 x a (h1 x a e)⟩
  bs := I.bs
  bsz := Nat.le_trans I.ok.bsz I.sz
  noex := fun b o e hb => by
    rcases (hf b hb).1.2.2.2.1 with z | z
    · exact I.ok.noex b o e z
    · exact absurd (Nat.lt_of_lt_of_le (Heap.lt_size (I.ok.bs b o e).1) z) (Nat.lt_irrefl _)
  exfs := fun b hb hm => by
    rcases List.mem_cons.mp (I.stkSub b hm) with z | z
    · exact (hf b hb).1.2.1 z
    · exact (hf b hb).1.2.2.1 z
  funs := I.stack
  frf := I.stkFree
theorem blk_len : (blk own fv σ).length = (own ++ fv.map (·.2)).length := by simp [blk]
/-- the block is entered -/
theorem inv_block (I : Inv X pins σ H₁ s₁) (c : CompOk X.env.scope X.N scope N' own fv) (h1 : ∀ y c, cl.lookup y = some c → X.env.cells.lookup y = some c) (h2 : ∀ y, (y, NameKind.free) ∈ scope.names → ∃ c, cl.lookup y = some c)
    (hf : ∀ b ∈ fp, FpOk X pins H₁ b ∧ b < s₁.heap.objs.size) {h' : Heap} {m : Str → Option Value} {tk : Nat} (hn : h'.Ns s₁.heap.objs.size m) (kp : ∀ b o, s₁.heap.get? b = some o → h'.get? b = some o) :
    Inv (cxC X N' scope cl s₁ H₁ fp pins) [] (blk own fv σ) H₁ { s₁ with heap := h', toks := tk } where
  ok := cxC_ok I c h1 h2 hf
  os := rfl
  bare := I.bare
  base := Un.kept kp
  loc := by
    refine ⟨m, hn, fun i x v e1 e2 e3 => ?_⟩
    have e1' : (own ++ fv.map (·.2))[i]? = some x := by rw [← c.eqN]; exact e1
    have hi : ¬ i < own.length := fun hi => by
      unfold blk at e2
      rw [List.getElem?_append_left (by simpa using hi), List.getElem?_map] at e2
      cases z : own[i]? with
      | none => rw [z] at e2; cases e2
      | some y => rw [z] at e2; cases e2
    unfold blk at e2
    rw [List.getElem?_append_right (by simpa using hi), List.length_map, List.getElem?_map] at e2
    rw [List.getElem?_append_right (by simpa using hi), List.getElem?_map] at e1'
    cases z : fv[i - own.length]? with
    | none => rw [z] at e2; cases e2
    | some p =>
      rw [z] at e2 e1'
      have ex : p.2 = x := Option.some.inj e1'
      subst ex
      obtain ⟨g1, g2, g3⟩ := c.slot p (List.mem_of_getElem? z)
      have e2' : (σ[p.1]?).join = some v := Option.some.inj e2
      have e2'' : σ[p.1]? = some (some v) := by
        cases q : σ[p.1]? with
        | none => rw [q] at e2'; cases e2'
        | some o => rw [q] at e2'; rw [show o = some v from e2']
      obtain ⟨m0, hn0, hl0⟩ := I.loc
      obtain ⟨u, ru, lu⟩ := hl0 p.1 p.2 v g1 e2'' (.inr (.inl g2))
      refine ⟨u, ru, .inr ⟨.inl g3, ?_⟩⟩
      rcases lu with ⟨k, _⟩ | ⟨_, cc, ec, ic⟩
      · exact absurd (show X.env.scope.names.lookup p.2 = some NameKind.local from k) (by rw [g2]; intro z; cases z)
      · have hfree : (p.2, NameKind.free) ∈ scope.names := rel_lookup (scope := scope) (env := X.env) g3 (.inl rfl) c.nocell
        obtain ⟨c', ec'⟩ := h2 _ hfree
        have := h1 _ _ ec'
        rw [ec] at this
        cases this
        obtain ⟨o, ho, hd⟩ := ic
        exact ⟨cc, ec', o, kp _ _ ho, hd⟩
  cell := fun x a e => by
    obtain ⟨v, o, ho, hd⟩ := I.cell x a (h1 x a e)
    exact ⟨v, o, kp _ _ ho, hd⟩
  free := I.hok.fresh (Nat.le_refl _)
  freeC := fun x a e => I.freeC x a (h1 x a e)
  pin := fun p hp => by
    rw [List.append_nil] at hp
    obtain ⟨g1, g2, g3, g4, g5⟩ := I.pin p hp
    refine ⟨kp _ _ g1, g2, Nat.ne_of_lt (Heap.lt_size g1), fun hm => ?_, g5⟩
    rcases List.mem_cons.mp (I.stkSub p.1 hm) with z | z
    · exact g3 z
    · exact g4 z
  hok := I.hok.kept kp
  len := by rw [blk_len, ← c.eqN]; rfl
/-- behind the block -/
theorem inv_left {σ' : St} {H' : Hp} (I : Inv X pins σ H₁ s₁) (hf : ∀ b ∈ fp, FpOk X pins H₁ b ∧ b < s₁.heap.objs.size) (J : Inv (cxC X N' scope cl s₁ H₁ fp pins) [] σ' H' s₂) :
    Inv X pins σ H' s₂ ∧ FpOk X pins H' s₁.heap.objs.size ∧ ∃ m, s₂.heap.Ns s₁.heap.objs.size m := by
  have I2 : Inv X pins σ H' s₂ := I.call' (ch := fp) J.os J.base J.hok J.bare fun b hb => ⟨(hf b hb).1.2.2.2.1, (hf b hb).1.2.1, (hf b hb).1.2.2.2.2.1, (hf b hb).1.2.2.2.2.2⟩
  obtain ⟨m, hn, _⟩ := J.loc
  exact ⟨I2, ⟨J.free, (I.fpOk (H' := H') (Nat.le_refl _) J.free).2⟩, m, hn⟩
end

/-- the tests of a comprehension: none, or one -/
def PIfs (X : Cx) (ifs : List Expr) (t : TT) : Prop := ∀ (pins : List (Addr × Obj)) (s : Shared) (σ : St) (H : Hp) (Q : Bool → Hp → Prop), Inv X pins σ H s → t σ H Q →
  wpAny (model X.prog X.w) X.A (forIn ifs true fun c r => if r = true then do let ok ← isTrue c X.env (eval c X.env); pure (ForInStep.yield ok) else pure (ForInStep.yield r)) (TP X pins σ Q) X.xe s
theorem pifs_nil {X : Cx} : PIfs X [] (fun _ H Q => Q true H) := fun _ _ _ H _ I h => wpAny_tests_nil ⟨H, I, h⟩
/-- the reading: at each turn the item is stored, tested, the element put behind the list at p -/
def tComp (wi : TI) (g : TG) (tc : TT) (te : TE) (own : List Str) (fv : FV) : TE := fun σ H Q => wi σ H fun J H1 => ∀ p, H1 p = none → ∃ W : Nat → Nat → Hp → Prop, (∃ m, W 0 m (upd H1 p (.lst []))) ∧ ∀ i m H2, W i m H2 →
  (J.stop i H2 ∧ Q (.ref p) H2) ∨ (J.go i H2 ∧ ∀ x H3, J.yld i H2 x H3 → g x (blk own fv σ) H3 fun σ2 H4 => tc σ2 H4 fun b H5 => if b = true then te σ2 H5 fun v H6 => ∃ acc, H6 p = some (.lst acc) ∧ acc.length < sizeLine ∧
    ∃ m', m' < m ∧ W (i + 1) m' (upd H6 p (.lst (acc ++ [v]))) else ∃ m', m' < m ∧ W (i + 1) m' H5)

theorem comp_core {X : Cx} {pins : List (Addr × Obj)} {σ : St} {H : Hp} {s : Shared} {elt target iter : Expr} {ifs : List Expr} {scope : Scope} {pos fpos : Pos} {N' own : List Str} {fv : FV} {wi : TI} {g : TG} {tc : TT} {te : TE} {R : VK} {use : Option (Value → Sem Unit)} {Q' : Value → Shared → Prop}
    (c : CompOk X.env.scope X.N scope N' own fv) (hcalm : X.calm = true) (hi : PI X target iter wi)
    (hgk : ∀ x σ H Q, g x σ H Q → g x σ H fun σ' H' => (σ'.length = σ.length ∧ ∀ i, own.length ≤ i → σ'[i]? = σ[i]?) ∧ Q σ' H')
    (hb : ∀ cl s₁ H₁ fp, PG (cxC X N' scope cl s₁ H₁ fp pins) target g ∧ PIfs (cxC X N' scope cl s₁ H₁ fp pins) ifs tc ∧ PE (cxC X N' scope cl s₁ H₁ fp pins) elt te)
    (hs : ∀ x, foldedSetIterable iter X.env x = pure x) (I : Inv X pins σ H s) (h : tComp wi g tc te own fv σ H R)
    (fin : ∀ (p C : Addr) (H' : Hp) (s' : Shared) (m : Str → Option Value), Inv X pins σ H' s' → FpOk X pins H' C → s'.heap.Ns C m → R (.ref p) H' → compPost (model X.prog X.w) X.A X.xe use Q' (.ref p) C (.ok .next) s') :
    wpAny (model X.prog X.w) X.A (comprehension (.ListComp elt [⟨target, iter, ifs, 0⟩] scope pos) scope X.env fpos (newList []) false (eval iter X.env) use) Q' X.xe s := by
  obtain ⟨cl, hclos, h1, h2⟩ := closure_ok (scope := scope) (env := X.env) fun y hy => I.ok.has y (.inl (c.fre y hy))
  refine wpAny_comprehension_free (use := use) rfl hs hclos c.kind c.loc (wpAny_mono (hi pins s σ H _ I h) (fun v s1 h1' => wpAny_mono h1' (fun itv s2 h2' => ?_) fun _ _ e => e) fun _ _ e => e)
  obtain ⟨it, fp, tn, J, H2, rfl, I2, T, st2, f2, q2⟩ := h2'
  refine wpAny_newObj_type ?_
  -- the list
  have I3 : Inv X pins σ (upd H2 s2.heap.objs.size (.lst [])) { s2 with heap := s2.heap.push { cls := .type "list", data := .seq ([] : List Value).toArray } } := I2.lnew (t' := s2.toks) (ys := []) (its := []) .nil (Nat.zero_le _)
  have np : H2 s2.heap.objs.size = none := I2.fresh
  generalize hs3 : ({ s2 with heap := s2.heap.push { cls := .type "list", data := .seq ([] : List Value).toArray } } : Shared) = s3 at I3
  have e3 : s3.heap = s2.heap.push { cls := .type "list", data := .seq ([] : List Value).toArray } := by rw [← hs3]
  have old3 : ∀ b o, s2.heap.get? b = some o → s3.heap.get? b = some o := fun b o e => by rw [e3]; exact Heap.get?_push_of_some _ e
  have f3 : ∀ b ∈ fp, FpOk X pins (upd H2 s2.heap.objs.size (.lst [])) b ∧ b < s3.heap.objs.size := fun b hb => by
    obtain ⟨o, ho, _⟩ := T.obj 0 _ st2 b hb
    have hlt := Heap.lt_size ho
    refine ⟨⟨?_, (f2 b hb).2⟩, Heap.lt_size (old3 b o ho)⟩
    rw [upd_ne (Nat.ne_of_lt hlt)]
    exact (f2 b hb).1
  have st3 : tn 0 s3.heap := T.keep 0 _ _ st2 fun b hb o e => old3 b o e
  refine wpAny_newFunctionEnv c.nocell (by intro y hy; simp at hy) (fun h' hns hsb => ?_) c.kind
  have kp : ∀ b o, s3.heap.get? b = some o → h'.get? b = some o := fun b o e => (hsb.2 b (Nat.ne_of_lt (Heap.lt_size e))).trans (Heap.get?_push_of_some _ e)
  have J0 : Inv (cxC X N' scope cl s3 (upd H2 s2.heap.objs.size (.lst [])) fp pins) [] (blk own fv σ) (upd H2 s2.heap.objs.size (.lst [])) { s3 with heap := h', toks := s3.toks + ([] : List (Str × Value)).length } := inv_block I3 c h1 h2 f3 hns kp
  have st4 : tn 0 h' := T.keep 0 _ _ st3 fun b hb o e => kp b o e
  obtain ⟨W, ⟨m0, w0⟩, turn⟩ := q2 s2.heap.objs.size np
  obtain ⟨hg, hifs, helt⟩ := hb cl s3 (upd H2 s2.heap.objs.size (.lst [])) fp
  have noP : ∀ b ∈ fp, b ≠ s3.heap.objs.size := fun b hb => Nat.ne_of_lt (f3 b hb).2
  have stat : ∀ {H' : Hp}, (∀ b ∈ fp, H' b = none) → ∀ b ∈ fp, FpOk (cxC X N' scope cl s3 (upd H2 s2.heap.objs.size (.lst [])) fp pins) [] H' b := fun hn b hb => by
    obtain ⟨⟨_, g1, g2, g3, g4, g5⟩, g6⟩ := f3 b hb
    refine ⟨hn b hb, Nat.ne_of_lt g6, fun hm => ?_, .inl hb, fun x a e => g4 x a (h1 x a e), fun p hp => g5 p (by simpa [cxC] using hp)⟩
    rcases List.mem_cons.mp (I3.stkSub b hm) with z | z
    · exact g1 z
    · exact g2 z
  have loop : codeAny (model X.prog X.w) X.A (.compLoop (.ListComp elt [⟨target, iter, ifs, 0⟩] scope pos) 0 (.ref it) (.ref s2.heap.objs.size) (compEnvC scope cl s3.heap.objs.size X.env))
      (compPost (model X.prog X.w) X.A X.xe use Q' (.ref s2.heap.objs.size) s3.heap.objs.size) { s3 with heap := h', toks := s3.toks + ([] : List (Str × Value)).length } := by
    refine comp_loop (fun n s' => ∃ i H' σ', Inv (cxC X N' scope cl s3 (upd H2 s2.heap.objs.size (.lst [])) fp pins) [] (blk own fv σ) H' s' ∧ σ' = blk own fv σ ∧ tn i s'.heap ∧ (∀ b ∈ fp, H' b = none) ∧ W i n H') ?_ m0 ⟨0, _, _, J0, rfl, st4, fun b hb => (f3 b hb).1.1, w0⟩
    rintro n s5 ⟨i, H5, _, J5, rfl, st5, fr5, w5⟩
    rcases turn i n H5 w5 with ⟨stop, qn⟩ | ⟨go, step⟩
    · refine thn (T.done (cxC X N' scope cl s3 (upd H2 s2.heap.objs.size (.lst [])) fp pins) rfl rfl rfl hcalm i [] s5 _ H5 _ J5 (stat fr5) st5 stop) fun r s6 hr => ?_
      obtain ⟨rfl, J6⟩ := hr
      obtain ⟨I6, f6, m6, n6⟩ := inv_left I3 f3 J6
      exact fin _ _ H5 s6 m6 I6 f6 n6 qn
    · refine thn (T.item (cxC X N' scope cl s3 (upd H2 s2.heap.objs.size (.lst [])) fp pins) rfl rfl rfl hcalm i [] s5 _ H5 _ J5 (stat fr5) st5 go) fun r s6 hr => ?_
      obtain ⟨u, rfl, h6⟩ := hr
      refine thn h6 fun _ s7 h7 => ?_
      obtain ⟨x, H7, J7, r7, y7, st7, fr7⟩ := h7
      have J7' := J7.pinned (stat fr7) (T.obj _ _ st7)
      refine thn (hg _ s7 _ H7 x u _ J7' r7 (hgk _ _ _ _ (step x H7 y7))) fun _ s8 h8 => ?_
      obtain ⟨σ8, H8, J8, ⟨l8, k8⟩, q8⟩ := h8
      refine thn (hifs _ s8 σ8 H8 _ J8 q8) fun ok s9 h9 => ?_
      obtain ⟨H9, J9, q9⟩ := h9
      have weak : ∀ {H' : Hp} {s' : Shared}, Inv (cxC X N' scope cl s3 (upd H2 s2.heap.objs.size (.lst [])) fp pins) ([] ++ pinsAt fp s7.heap) σ8 H' s' →
          Inv (cxC X N' scope cl s3 (upd H2 s2.heap.objs.size (.lst [])) fp pins) [] (blk own fv σ) H' s' ∧ tn (i + 1) s'.heap ∧ ∀ b ∈ fp, H' b = none := fun {H' s'} J' => by
        refine ⟨J'.unpinned.weak l8.symm fun j v e => ?_, T.keep _ _ _ st7 fun b hb o e => (J'.pin (b, o) (List.mem_append_right _ (List.mem_append_right _ (mem_pinsAt hb e)))).1, fun b hb => ?_⟩
        · have hj : own.length ≤ j := Nat.le_of_not_lt fun hj => by
            unfold blk at e
            rw [List.getElem?_append_left (by simpa using hj), List.getElem?_map] at e
            cases z : own[j]? with
            | none => rw [z] at e; cases e
            | some y => rw [z] at e; cases e
          rw [k8 j hj]; exact e
        · obtain ⟨o, e, d⟩ := T.obj _ _ st7 b hb
          exact (J'.pin (b, o) (List.mem_append_right _ (List.mem_append_right _ (mem_pinsAt hb e)))).2.1
      cases ok with
      | false =>
        rw [if_neg Bool.false_ne_true] at q9 ⊢
        obtain ⟨m', hm, w9⟩ := q9
        obtain ⟨g1, g2, g3⟩ := weak J9
        exact ⟨m', hm, i + 1, H9, _, g1, rfl, g2, g3, w9⟩
      | true =>
        rw [if_pos rfl] at q9 ⊢
        refine thn (helt _ s9 σ8 H9 _ J9 q9) fun xv s10 h10 => ?_
        obtain ⟨v, H10, J10, r10, acc, ea, hl, m', hm, w10⟩ := h10
        refine thn (mt_append _ s10 σ8 H10 (.ref s2.heap.objs.size) [v] (.ref s2.heap.objs.size) [xv] (fun z H' => z = .non ∧ H' = upd H10 s2.heap.objs.size (.lst (acc ++ [v]))) J10 rfl (.cons r10 .nil) ⟨_, acc, v, rfl, rfl, ea, hl, rfl, rfl⟩) fun _ s11 h11 => ?_
        obtain ⟨z, H11, J11, _, _, rfl⟩ := h11
        obtain ⟨g1, g2, g3⟩ := weak J11
        exact ⟨m', hm, i + 1, _, _, g1, rfl, g2, g3, w10⟩
  exact codeAny_compStart_list loop (T.self X.A 0 _ _ _ st4 loop)

theorem pe_comp {X : Cx} {elt target iter : Expr} {ifs : List Expr} {scope : Scope} {pos : Pos} {N' own : List Str} {fv : FV} {wi : TI} {g : TG} {tc : TT} {te : TE}
    (c : CompOk X.env.scope X.N scope N' own fv) (hcalm : X.calm = true) (hi : PI X target iter wi)
    (hgk : ∀ x σ H Q, g x σ H Q → g x σ H fun σ' H' => (σ'.length = σ.length ∧ ∀ i, own.length ≤ i → σ'[i]? = σ[i]?) ∧ Q σ' H')
    (hb : ∀ pins cl s₁ H₁ fp, PG (cxC X N' scope cl s₁ H₁ fp pins) target g ∧ PIfs (cxC X N' scope cl s₁ H₁ fp pins) ifs tc ∧ PE (cxC X N' scope cl s₁ H₁ fp pins) elt te)
    (hs : ∀ x, foldedSetIterable iter X.env x = pure x := by intro _; rfl) : PE X (.ListComp elt [⟨target, iter, ifs, 0⟩] scope pos) (tComp wi g tc te own fv) := by
  intro pins s σ H Q I h
  rw [eval_ListComp]
  refine comp_core (use := none) (R := Q) c hcalm hi hgk (hb pins) hs I h fun p C H' s' m J f n q => ?_
  refine ⟨m, n, fun h' hs' => ⟨.ref p, H', J.turned (t' := s'.toks) (it := C) (fun b o hb e => (hs'.2 b hb).trans e) f.1 f.2.1 f.2.2.2.1 f.2.2.2.2.1 f.2.2.2.2.2, rfl, q⟩⟩

theorem ps_setcomp {X : Cx} {elt target iter : Expr} {ifs : List Expr} {scope : Scope} {pos spos py : Pos} {y : Str} {j : Nat} {N' own : List Str} {fv : FV} {wi : TI} {g : TG} {tc : TT} {te : TE}
    (hN : X.N.Nodup) (hj : X.N[j]? = some y) (hy : Loc X.env.scope y) (hsw : swapsWith (.ListComp elt [⟨target, iter, ifs, 0⟩] scope pos) (some (.Name y py)) spos.line X.env = pure true)
    (c : CompOk X.env.scope X.N scope N' own fv) (hcalm : X.calm = true) (hi : PI X target iter wi)
    (hgk : ∀ x σ H Q, g x σ H Q → g x σ H fun σ' H' => (σ'.length = σ.length ∧ ∀ i, own.length ≤ i → σ'[i]? = σ[i]?) ∧ Q σ' H')
    (hb : ∀ pins cl s₁ H₁ fp, PG (cxC X N' scope cl s₁ H₁ fp pins) target g ∧ PIfs (cxC X N' scope cl s₁ H₁ fp pins) ifs tc ∧ PE (cxC X N' scope cl s₁ H₁ fp pins) elt te)
    (hs : ∀ x, foldedSetIterable iter X.env x = pure x := by intro _; rfl) (hf : X.fn y = true ∨ X.env.scope.names.lookup y = some .local := by first | exact .inl rfl | exact .inr rfl | assumption) :
    PS X (.Assign [.Name y py] (.ListComp elt [⟨target, iter, ifs, 0⟩] scope pos) spos) (tAsg (tComp wi g tc te own fv) (gName j)) := by
  intro pins s σ H Dd I h
  rw [exec_Assign_Name_used _ _ _ _ hsw]
  refine wpAny_bind (wpAny_standAt (wpAny_bind ?_))
  show wpAny _ X.A (do let _ ← comprehension (.ListComp elt [⟨target, iter, ifs, 0⟩] scope pos) scope X.env _ (newList []) false (eval iter X.env) (some (assign (.Name y py) X.env))) _ _ s
  refine wpAny_bind (wpAny_mono (comp_core (use := some (assign (.Name y py) X.env)) (Q' := fun _ s' => SP X pins Dd .next s') c hcalm hi hgk (hb pins) hs I h fun p C H' s' m J f n q => ?_) (fun _ s' hq => wpAny_pure (wpAny_pure hq)) fun _ _ e => e)
  show wpAny _ X.A (assign (.Name y py) X.env (.ref p)) _ _ s'
  refine wpAny_assign_Name (store_ok2 J hN hj hy (v := .ref p) rfl (fun s'' J' hs'' => ?_) hf)
  obtain ⟨a, sb, ha⟩ := hs''
  have hC : C ≠ a := by
    rcases ha with z | z
    · rw [z]; exact f.2.1
    · exact fun w => f.2.2.2.2.1 _ _ z w.symm
  refine ⟨m, n.sameBut sb hC, fun h' hs' => ⟨_, H', J'.turned (t' := s''.toks) (it := C) (fun b o hb e => (hs'.2 b hb).trans e) f.1 f.2.1 f.2.2.2.1 f.2.2.2.2.1 f.2.2.2.2.2, q⟩⟩

/-! ### .. over data -/
/-- the results, item by item: none where the test says no. The elements leave the heap -/
def cp3 (wi : TI3) (g : TG3) (tc : TT3) (te : TE3) (own : List Str) (fv : FV) : TE3 := fun σ H Q => wi σ H fun ds keep H1 => (∀ H2 : Hp3, Sub3 H1 H2 → keep H2) ∧ ds.length ≤ 1000 ∧ ∃ rs : List (Option D), rs.length = ds.length ∧
  (∀ (i : Nat) (d : D), ds[i]? = some d → ∀ H2 : Hp3, Sub3 H1 H2 → g d (own.map (fun _ => none) ++ fv.map fun p => (σ[p.1]?).join) H2 fun σ2 H4 => tc σ2 H4 fun b H5 =>
    if b = true then te σ2 H5 fun v H6 => Sub3 H2 H6 ∧ rs[i]? = some (some v) else Sub3 H2 H5 ∧ rs[i]? = some none) ∧
  ∀ p, H1 p = none → Q (.ref p) (upd3 H1 p (.lst (rs.filterMap id)))
theorem sr_blk {K : PySem.W.Frag} {H : Hp} {σ3 : St3} {σ : St} {own : List Str} {fv : FV} (s : SR K H σ3 σ) : SR K H (own.map (fun _ => none) ++ fv.map fun p => (σ3[p.1]?).join) (blk own fv σ) := by
  refine ⟨by simp [blk], fun i d h => ?_⟩
  have hi : ¬ i < own.length := fun hi => by
    rw [List.getElem?_append_left (by simpa using hi), List.getElem?_map] at h
    cases z : own[i]? with
    | none => rw [z] at h; cases h
    | some y => rw [z] at h; cases h
  rw [List.getElem?_append_right (by simpa using hi), List.length_map, List.getElem?_map] at h
  unfold blk
  rw [List.getElem?_append_right (by simpa using hi), List.length_map, List.getElem?_map]
  cases z : fv[i - own.length]? with
  | none => rw [z] at h; cases h
  | some p =>
    rw [z] at h
    have h' : (σ3[p.1]?).join = some d := Option.some.inj h
    have e : σ3[p.1]? = some (some d) := by
      cases q : σ3[p.1]? with
      | none => rw [q] at h'; cases h'
      | some o => rw [q] at h'; rw [show o = some d from h']
    obtain ⟨v, hv, rv⟩ := s.get _ _ e
    exact ⟨v, by show some (σ[p.1]?).join = some (some v); rw [hv]; rfl, rv⟩
theorem filterMap_take_succ {rs : List (Option D)} {i : Nat} {o : Option D} (h : rs[i]? = some o) : (rs.take (i + 1)).filterMap id = (rs.take i).filterMap id ++ o.toList := by
  rw [List.take_add_one, h, List.filterMap_append]
  cases o <;> rfl
theorem lift_comp {K : PySem.W.Frag} {wi : TI3} {g : TG3} {g2 : TG} {tc : TT3} {te : TE3} {own : List Str} {fv : FV} {σ : St} {H : Hp} {Q : VK} (hgr : ∀ v σ H Q, liftG K g v σ H Q → g2 v σ H Q) (h : liftE K (cp3 wi g tc te own fv) σ H Q) : tComp (liftI K wi) g2 (liftT K tc) (liftE K te) own fv σ H Q := by
  obtain ⟨σ3, H3, Q3, sr, hr, t, k⟩ := h
  refine ⟨σ3, H3, _, sr, hr, t, fun ds keep J H3' H' tk' hr' ok q p np => ?_⟩
  obtain ⟨hkeep, hlen, rs, hrl, hel, hfin⟩ := q
  have np3 : H3' p = none := hr'.fresh np
  have hrs : ∀ i, ((rs.take i).filterMap id).length ≤ i := fun i => Nat.le_trans (List.length_filterMap_le _ _) (by rw [List.length_take]; omega)
  refine ⟨fun i m H2 => m = ds.length - i ∧ i ≤ ds.length ∧ TK H' H2 ∧ HR K (upd3 H3' p (.lst ((rs.take i).filterMap id))) H2, ⟨ds.length, by simp, Nat.zero_le _, TK.fresh np, hr'.setL (TK.fresh np) (.nil)⟩, ?_⟩
  rintro i m H2 ⟨rfl, hi, tk2, hr2⟩
  have sub2 : Sub3 H3' (upd3 H3' p (.lst ((rs.take i).filterMap id))) := Sub3.fresh np3
  obtain ⟨go, stop⟩ := ok _ H2 tk2 hr2 (hkeep _ sub2)
  by_cases hlt : i < ds.length
  · obtain ⟨g1, g2⟩ := go i hlt
    refine .inr ⟨g1, fun x H2' y => ?_⟩
    obtain ⟨tky, hry, d, ed, rd⟩ := g2 x H2' y
    replace tk2 := tk2.trans tky
    refine hgr _ _ _ _ ⟨d, _, _, _, rd, (sr_blk sr).mono (tk'.trans tk2), hry, hel i d ed _ sub2, fun σ3a σa H3a Ha tka sra hra qa => ⟨σ3a, H3a, _, sra, hra, qa, fun b H3b Hb tkb hrb qb => ?_⟩⟩
    cases b with
    | true =>
      rw [if_pos rfl] at qb ⊢
      refine ⟨σ3a, H3b, _, sra.mono tkb, hrb, qb, fun v u H3c Hc tkc hrc rv qc => ?_⟩
      obtain ⟨sub, ers⟩ := qc
      obtain ⟨acc, gacc, racc⟩ := hrc p _ (sub p _ upd3_same)
      refine ⟨acc, gacc, ?_, ds.length - (i + 1), by omega, rfl, hlt, ((tk2.trans tka).trans (tkb.trans tkc)).trans (TK.lst gacc), ?_⟩
      · rw [← racc.length]
        exact small1000 (Nat.le_trans (hrs i) (Nat.le_trans hi hlen))
      · rw [filterMap_take_succ ers, ← upd3_upd3]
        exact (hrc.sub sub).setL (TK.lst gacc) ((racc.snoc rv).mono (TK.lst gacc))
    | false =>
      rw [if_neg Bool.false_ne_true] at qb ⊢
      obtain ⟨sub, ers⟩ := qb
      refine ⟨ds.length - (i + 1), by omega, rfl, hlt, (tk2.trans tka).trans tkb, ?_⟩
      rw [filterMap_take_succ ers]
      simp only [Option.toList, List.append_nil]
      exact hrb.sub sub
  · have e : i = ds.length := by omega
    subst e
    refine .inl ⟨stop, k _ _ _ _ (tk'.trans tk2) hr2 (.ref p) ?_⟩
    rw [List.take_of_length_le (by rw [hrl]; exact Nat.le_refl _)]
    exact hfin p np3
def yes3 : TT3 := fun _ H Q => Q true H
def PIfs3 (X : Cx) (ifs : List Expr) (t : TT3) : Prop := PIfs X ifs (liftT X.K t)
theorem ifs3_nil {X : Cx} : PIfs3 X [] yes3 := fun pins s σ H Q I h => by
  obtain ⟨σ3, H3, Q3, sr, hr, t, k⟩ := h
  exact pifs_nil pins s σ H Q I (k _ _ _ TK.refl hr t)
theorem gr_name {K : PySem.W.Frag} {i : Nat} : ∀ v σ H Q, liftG K (gn3 i) v σ H Q → gName i v σ H Q := fun _ _ _ _ ⟨_, _, _, _, rd, sr, hr, t, k⟩ => k _ _ _ _ TK.refl (sr.set i rd) hr t
theorem gk_name {n i : Nat} (hi : i < n) : ∀ x σ H Q, gName i x σ H Q → gName i x σ H fun σ' H' => (σ'.length = σ.length ∧ ∀ j, n ≤ j → σ'[j]? = σ[j]?) ∧ Q σ' H' := fun x σ H Q h =>
  ⟨⟨by simp, fun j hj => List.getElem?_set_ne (by omega)⟩, h⟩
theorem gr_pair {K : PySem.W.Frag} {i j : Nat} : ∀ v σ H Q, liftG K (g2_3 i j) v σ H Q → gTup K 2 (gCons (gName i) (gCons (gName j) gNil)) v σ H Q := fun v σ H Q ⟨d, σ3, H3, Q3, rd, sr, hr, t, k⟩ => by
  cases rd with
  | tup ha ra =>
    cases ra with
    | nil => exact t.elim
    | cons r1 ra =>
      cases ra with
      | nil => exact t.elim
      | cons r2 ra =>
        cases ra with
        | cons _ _ => exact t.elim
        | nil => exact ⟨_, _, rfl, SqT.of ha, rfl, _, _, rfl, _, _, rfl, rfl, k _ _ _ _ TK.refl ((sr.set i r1).set j r2) hr t⟩
  | _ => exact t.elim
theorem gk_pair {K : PySem.W.Frag} {n i j : Nat} (hi : i < n) (hj : j < n) : ∀ x σ H Q, gTup K 2 (gCons (gName i) (gCons (gName j) gNil)) x σ H Q →
    gTup K 2 (gCons (gName i) (gCons (gName j) gNil)) x σ H fun σ' H' => (σ'.length = σ.length ∧ ∀ l, n ≤ l → σ'[l]? = σ[l]?) ∧ Q σ' H' := fun x σ H Q h => by
  obtain ⟨a, xs, rfl, h1, h2, v, r, rfl, v', r', rfl, e, q⟩ := h
  refine ⟨a, _, rfl, h1, h2, v, _, rfl, v', _, rfl, e, ⟨by simp, fun l hl => ?_⟩, q⟩
  rw [List.getElem?_set_ne (by omega), List.getElem?_set_ne (by omega)]
section
variable {X : Cx} {elt iter : Expr} {ifs : List Expr} {scope : Scope} {pos px py pt spos : Pos} {x x' y : Str} {fv : FV} {wi : TI3} {tc : TT3} {te : TE3} {kk : Nat}
/-- [elt for x in iter if ..] -/
theorem p3_comp (c : CompOk X.env.scope X.N scope (x :: fv.map (·.2)) [x] fv) (hcalm : X.calm = true) (hi : PI3 X (.Name x px) iter wi)
    (hifs : ∀ pins cl s₁ H₁ fp, PIfs3 (cxC X (x :: fv.map (·.2)) scope cl s₁ H₁ fp pins) ifs tc) (helt : ∀ pins cl s₁ H₁ fp, PE3 (cxC X (x :: fv.map (·.2)) scope cl s₁ H₁ fp pins) elt te)
    (hx : (relabel scope X.env).names.lookup x = some .local := by rfl) (hs : ∀ x, foldedSetIterable iter X.env x = pure x := by intro _; rfl) : PE3 X (.ListComp elt [⟨.Name x px, iter, ifs, 0⟩] scope pos) (cp3 wi (gn3 0) tc te [x] fv) :=
  pe_imp (pe_comp (g := gName 0) (tc := liftT X.K tc) (te := liftE X.K te) c hcalm hi (gk_name (Nat.zero_lt_one)) (fun pins cl s₁ H₁ fp => ⟨pg_name c.nd rfl (.inl hx) (.inr hx), hifs pins cl s₁ H₁ fp, helt pins cl s₁ H₁ fp⟩) hs) fun _ _ _ h => lift_comp gr_name h
theorem s3_setcomp (j : Nat) (hN : X.N.Nodup) (c : CompOk X.env.scope X.N scope (x :: fv.map (·.2)) [x] fv) (hcalm : X.calm = true) (hi : PI3 X (.Name x px) iter wi)
    (hifs : ∀ pins cl s₁ H₁ fp, PIfs3 (cxC X (x :: fv.map (·.2)) scope cl s₁ H₁ fp pins) ifs tc) (helt : ∀ pins cl s₁ H₁ fp, PE3 (cxC X (x :: fv.map (·.2)) scope cl s₁ H₁ fp pins) elt te)
    (hj : X.N[j]? = some y := by rfl) (hy : Loc X.env.scope y := by first | exact Or.inl rfl | exact Or.inr rfl) (hsw : swapsWith (.ListComp elt [⟨.Name x px, iter, ifs, 0⟩] scope pos) (some (.Name y py)) spos.line X.env = pure true := by rfl)
    (hx : (relabel scope X.env).names.lookup x = some .local := by rfl) (hs : ∀ x, foldedSetIterable iter X.env x = pure x := by intro _; rfl) (hf : X.fn y = true ∨ X.env.scope.names.lookup y = some .local := by first | exact .inl rfl | exact .inr rfl | assumption) :
    PS3 X (.Assign [.Name y py] (.ListComp elt [⟨.Name x px, iter, ifs, 0⟩] scope pos) spos) (st3 j (cp3 wi (gn3 0) tc te [x] fv)) :=
  ps_imp (ps_setcomp (g := gName 0) (tc := liftT X.K tc) (te := liftE X.K te) hN hj hy hsw c hcalm hi (gk_name (Nat.zero_lt_one)) (fun pins cl s₁ H₁ fp => ⟨pg_name c.nd rfl (.inl hx) (.inr hx), hifs pins cl s₁ H₁ fp, helt pins cl s₁ H₁ fp⟩) hs hf)
    fun _ _ _ ⟨σ3, H3, D3, sr, hr, t, k⟩ => lift_comp gr_name ⟨σ3, H3, _, sr, hr, t, fun x v H3a Ha tka hra rx qa => k.nx _ _ _ _ tka ((sr.mono tka).set j rx) hra qa⟩
/-- [elt for x, x' in iter if ..] -/
theorem p3_comp2 (c : CompOk X.env.scope X.N scope (x :: x' :: fv.map (·.2)) [x, x'] fv) (hcalm : X.calm = true) (hi : PI3 X (.Tuple [.Name x px, .Name x' py] kk pt) iter wi)
    (hifs : ∀ pins cl s₁ H₁ fp, PIfs3 (cxC X (x :: x' :: fv.map (·.2)) scope cl s₁ H₁ fp pins) ifs tc) (helt : ∀ pins cl s₁ H₁ fp, PE3 (cxC X (x :: x' :: fv.map (·.2)) scope cl s₁ H₁ fp pins) elt te)
    (hx : (relabel scope X.env).names.lookup x = some .local := by rfl) (hx' : (relabel scope X.env).names.lookup x' = some .local := by rfl) (hs : ∀ x, foldedSetIterable iter X.env x = pure x := by intro _; rfl) :
    PE3 X (.ListComp elt [⟨.Tuple [.Name x px, .Name x' py] kk pt, iter, ifs, 0⟩] scope pos) (cp3 wi (g2_3 0 1) tc te [x, x'] fv) :=
  pe_imp (pe_comp (g := gTup X.K 2 (gCons (gName 0) (gCons (gName 1) gNil))) (tc := liftT X.K tc) (te := liftE X.K te) c hcalm hi (gk_pair (show 0 < 2 by decide) (show 1 < 2 by decide))
    (fun pins cl s₁ H₁ fp => ⟨pg_tup (n := 2) hcalm (pgs_cons (pg_name c.nd rfl (.inl hx) (.inr hx)) (pgs_cons (pg_name c.nd rfl (.inl hx') (.inr hx')) pgs_nil)), hifs pins cl s₁ H₁ fp, helt pins cl s₁ H₁ fp⟩) hs) fun _ _ _ h => lift_comp gr_pair h
end
end L3

namespace L3
open PySem L2
def i3sub : R3 := rI30 fun i j => .int (i - j)
def i3mul : R3 := rI3 CMul fun i j => .int (i * j)
def i3div : R3 := rI3 CDiv fun i j => .int (i / j)
def i3mod : R3 := rI3 (fun _ j => 0 < j) fun i j => .int (i % j)
def i3pow : R3 := rI3 CPow fun i j => .int (i ^ j.toNat)
def i3le : R3 := rI30 fun i j => .bl (decide (i ≤ j))
def i3gt : R3 := rI30 fun i j => .bl (decide (j < i))
def i3ge : R3 := rI30 fun i j => .bl (decide (j ≤ i))
theorem intsOf_map : ∀ ns : List Int, intsOf (ns.map D.int) = some ns
  | [] => rfl
  | n :: ns => by simp only [List.map_cons, intsOf, intsOf_map ns, Option.map_some]
def r3ins : D → List D → Hp3 → VK3 → Prop := fun x xs H Q => match x, xs with
  | .ref a, [.int i, y] => (match H a with
    | some (.lst ds) => ((0 ≤ i ∧ i ≤ ds.length) ∧ ds.length < 1000) ∧ Q .non (upd3 H a (.lst (ds.take i.toNat ++ y :: ds.drop i.toNat)))
    | _ => False)
  | _, _ => False
abbrev Pt := Int × Int
def prP (p : Pt) : D := .tup [.int p.1, .int p.2]
def ptsOf : List D → Option (List Pt)
  | [] => some []
  | .tup [.int x, .int y] :: ds => (ptsOf ds).map ((x, y) :: ·)
  | _ :: _ => none
theorem ptsOf_map : ∀ ps : List Pt, ptsOf (ps.map prP) = some ps
  | [] => rfl
  | p :: ps => by simp only [List.map_cons, prP, ptsOf]; rw [ptsOf_map ps]; rfl
theorem ptsOf_inv : ∀ {ds : List D} {ps : List Pt}, ptsOf ds = some ps → ds = ps.map prP := by
  intro ds
  induction ds with
  | nil => intro ps h; simp only [ptsOf, Option.some.injEq] at h; subst h; rfl
  | cons d ds ih =>
    intro ps h
    unfold ptsOf at h
    split at h
    · rename_i a; cases a
    · rename_i x y r heq
      cases heq
      simp only [Option.map_eq_some_iff] at h
      obtain ⟨qs, h1, h2⟩ := h
      subst h2
      rw [ih h1]; rfl
    · cases h
/-! ### the order of pairs: the second number first -/
def ltc (c r : Pt) : Bool := HT.lexLt [r.2, r.1] [c.2, c.1]
def insP (row : List Pt) (c : Pt) : List Pt := row.takeWhile (ltc c) ++ c :: row.dropWhile (ltc c)
def isort (ps : List Pt) : List Pt := ps.foldl insP []
theorem ltc_iff (c r : Pt) : ltc c r = true ↔ r.2 < c.2 ∨ (r.2 = c.2 ∧ r.1 < c.1) := by
  unfold ltc HT.lexLt
  by_cases h : r.2 = c.2
  · rw [if_pos h]
    unfold HT.lexLt
    by_cases h2 : r.1 = c.1
    · rw [if_pos h2]; unfold HT.lexLt; simp [h, h2]
    · rw [if_neg h2]; simp [h]
  · rw [if_neg h]
    simp [h]
theorem ltc_false (c r : Pt) : ltc c r = false ↔ c.2 < r.2 ∨ (c.2 = r.2 ∧ c.1 ≤ r.1) := by
  rw [← Bool.not_eq_true, ltc_iff]
  omega
theorem take_while_eq {p : Pt → Bool} : ∀ {row : List Pt} {k : Nat}, k ≤ row.length → (∀ r ∈ row.take k, p r = true) → (∀ h : k < row.length, p (row[k]'h) = false) → row.takeWhile p = row.take k ∧ row.dropWhile p = row.drop k
  | [], k, _, _, _ => by simp
  | r :: row, 0, _, _, h => by
    have := h (by simp)
    simp at this
    simp [List.takeWhile_cons, List.dropWhile_cons, this]
  | r :: row, k + 1, hk, h1, h2 => by
    have hr : p r = true := h1 r (by simp)
    have ih := take_while_eq (p := p) (row := row) (k := k) (by simpa using hk) (fun x hx => h1 x (by simp [hx])) (fun h => by have := h2 (by simpa using h); simpa using this)
    simp [List.takeWhile_cons, List.dropWhile_cons, hr, ih.1, ih.2]
theorem insP_perm (row : List Pt) (c : Pt) : (insP row c).Perm (c :: row) := by
  unfold insP
  have e := List.takeWhile_append_dropWhile (p := ltc c) (l := row)
  have h : (row.takeWhile (ltc c) ++ c :: row.dropWhile (ltc c)).Perm (c :: (row.takeWhile (ltc c) ++ row.dropWhile (ltc c))) := List.perm_middle
  rw [e] at h
  exact h
theorem foldl_ins_perm : ∀ (ps row : List Pt), (ps.foldl insP row).Perm (row ++ ps)
  | [], row => by simp
  | p :: ps, row => by
    rw [List.foldl_cons]
    refine (foldl_ins_perm ps _).trans ?_
    refine ((insP_perm row p).append_right ps).trans ?_
    rw [List.cons_append]
    exact List.perm_middle.symm
theorem isort_perm (ps : List Pt) : (isort ps).Perm ps := by
  have := foldl_ins_perm ps []
  simpa [isort] using this
theorem isort_len (ps : List Pt) : (isort ps).length = ps.length := (isort_perm ps).length_eq
theorem isort_take {ps : List Pt} {i : Nat} {c : Pt} (h : ps[i]? = some c) : isort (ps.take (i + 1)) = insP (isort (ps.take i)) c := by
  unfold isort
  rw [List.take_add_one, h, List.foldl_append]
  rfl
/-- a comes no later than b -/
def leP (a b : Pt) : Prop := ltc a b = false
theorem leP_trans {a b c : Pt} (h1 : leP a b) (h2 : leP b c) : leP a c := by
  unfold leP at *
  rw [ltc_false] at *
  omega
theorem leP_of_ltc {c r : Pt} (h : ltc c r = true) : leP r c := by
  unfold leP
  rw [ltc_iff] at h
  rw [ltc_false]
  omega
theorem insP_sorted {row : List Pt} {c : Pt} (h : row.Pairwise leP) : (insP row c).Pairwise leP := by
  unfold insP
  have e := List.takeWhile_append_dropWhile (p := ltc c) (l := row)
  have ht : ∀ r ∈ row.takeWhile (ltc c), ltc c r = true := fun r hr => by
    have := List.all_takeWhile (p := ltc c) (l := row)
    rw [List.all_eq_true] at this
    exact this r hr
  have hd : ∀ r ∈ row.dropWhile (ltc c), leP c r := by
    have hs : (row.dropWhile (ltc c)).Pairwise leP := by rw [← e] at h; exact (List.pairwise_append.mp h).2.1
    cases hq : row.dropWhile (ltc c) with
    | nil => intro r hr; cases hr
    | cons x xs =>
      have hx : ltc c x = false := by
        have := List.head?_dropWhile_not (ltc c) row
        rw [hq] at this
        simpa using this
      rw [hq] at hs
      intro r hr
      rcases List.mem_cons.mp hr with rfl | hr
      · exact hx
      · exact leP_trans hx ((List.pairwise_cons.mp hs).1 r hr)
  rw [← e] at h
  obtain ⟨h1, h2, h3⟩ := List.pairwise_append.mp h
  refine List.pairwise_append.mpr ⟨h1, List.pairwise_cons.mpr ⟨hd, h2⟩, fun a ha b hb => ?_⟩
  rcases List.mem_cons.mp hb with rfl | hb
  · exact leP_of_ltc (ht a ha)
  · exact h3 a ha b hb
theorem foldl_ins_sorted : ∀ (ps row : List Pt), row.Pairwise leP → (ps.foldl insP row).Pairwise leP
  | [], _, h => h
  | _ :: ps, _, h => foldl_ins_sorted ps _ (insP_sorted h)
theorem isort_sorted (ps : List Pt) : (isort ps).Pairwise leP := foldl_ins_sorted ps [] List.Pairwise.nil
/-- the key of a pair: its numbers the other way round -/
def KeyOk (sp : Sp3) : Prop := ∀ (c : Pt) (H3 : Hp3) (Q3 : VK3), Q3 (.tup [.int c.2, .int c.1]) H3 → sp [prP c] H3 Q3
def sok (sp : Sp3) (x : D) (H1 : Hp3) (Q : VK3) : Prop := match x with
  | .ref a => (match H1 a with
    | some (.lst ds) => (match ptsOf ds with
      | some ps => KeyOk sp ∧ ps.length < 64 ∧ ∀ p, H1 p = none → Q (.ref p) (upd3 H1 p (.lst ((isort ps).map prP)))
      | none => False)
    | _ => False)
  | _ => False
def so3 (sp : Sp3) (te : TE3) : TE3 := fun σ H Q => te σ H fun x H1 => sok sp x H1 Q
end L3

namespace L3
open PySem PySem.Spec PyProof.Rows L2
section
variable {X : Cx}
/-! ### insert -/
def rInsert : V → List V → Hp → VK → Prop := fun x vs H Q => ∃ l xs i y, x = .ref l ∧ vs = [.int i, y] ∧ H l = some (.lst xs) ∧ (0 ≤ i ∧ i ≤ xs.length) ∧ xs.length < sizeLine ∧ Q .non (upd H l (.lst (xs.take i.toNat ++ y :: xs.drop i.toNat)))
theorem mt_insert : MtM X "list.insert" rInsert := by
  intro pins s σ H x vs v us Q I rx rv h
  obtain ⟨l, xs, i, y, rfl, rfl, hH, hi, hz, q⟩ := h
  cases rx
  obtain ⟨u, w', rfl, ru, ry⟩ := rv.two
  obtain ⟨t, rfl⟩ := ru
  obtain ⟨z, its, n, r, hl, e⟩ := I.lstM hH
  have hs := sizeLine_eq
  have hfit : Builtin.List.listFitsIndex i = true := by
    unfold Builtin.List.listFitsIndex
    simp only [Bool.and_eq_true, decide_eq_true_eq]
    constructor <;> omega
  refine call_meets PySem.F.slot_list_insert ⟨_, e, rfl⟩ PySem.F.entry_list_insert (PySem.F.args_list_insert_3 _ _ _)
    (PySem.AutoSeq1.list_insert_list_int_val_1 l its.toArray n i t w' (by simp [hfit]) (by rw [List.size_toArray]; omega)) ⟨e, ?_⟩
  refine ⟨.non, _, I.lset (its' := its.take i.toNat ++ w' :: its.drop i.toNat) hH e ?_ ((r.take _).append (.cons ry (r.drop _))) ?_, rfl, q⟩
  · have hk : (if i < 0 then (i + (its.toArray.size : Int)).toNat else min i.toNat its.toArray.size) = i.toNat := by
      rw [if_neg (by omega), List.size_toArray]; omega
    show (its.toArray.extract 0 (if i < 0 then (i + (its.toArray.size : Int)).toNat else min i.toNat its.toArray.size)).push w' ++ its.toArray.extract (if i < 0 then (i + (its.toArray.size : Int)).toNat else min i.toNat its.toArray.size) = _
    rw [hk]
    apply Array.ext'
    simp
    exact List.take_of_length_le (by rw [List.length_drop]; exact Nat.le_refl _)
  · simp only [List.length_append, List.length_cons, List.length_take, List.length_drop]
    omega
theorem mt3_ins : MtR X "list.insert" (liftM X.K r3ins) := by
  intro pins s σ H x xs v us Q I rx rs h
  obtain ⟨d, ds, H3, Q3, hr, rd, rds, t, k⟩ := h
  cases rd with
  | ref a =>
    cases rds with
    | nil => exact t.elim
    | cons r1 r2 =>
      cases r2 with
      | nil => cases r1 <;> exact t.elim
      | cons r2 r3 =>
        cases r3 with
        | cons _ _ => cases r1 <;> exact t.elim
        | nil =>
          cases r1 with
          | int i =>
            simp only [r3ins] at t
            split at t
            · rename_i ds ha
              obtain ⟨vs, ga, ra⟩ := hr a _ ha
              obtain ⟨⟨hi, hl⟩, q⟩ := t
              exact mt_insert pins s σ H _ _ v us Q I rx rs ⟨a, vs, i, _, rfl, rfl, ga, by rw [← ra.length]; exact hi, by rw [← ra.length]; exact small1000 (Nat.le_of_lt hl),
                k _ _ _ _ (TK.lst ga) (hr.setL (TK.lst ga) (((ra.take _).append (.cons r2 (ra.drop _))).mono (TK.lst ga))) .non q⟩
            · exact t.elim
          | _ => exact t.elim
  | _ => exact t.elim
/-! ### min, max of a list of ints -/
end
end L3

namespace L3
open PySem L2
/-! ### steps: a rule for each reading, from its head on -/
theorem sizeLine_n : sizeLine = 16777216 := by decide
theorem small1000' {n : Nat} (h : n ≤ 1000) : n < sizeLine := by rw [sizeLine_n]; omega
theorem upd3_old {H : Hp3} {a p : Addr} {o u : O3} (h : H a = some o) (n : H p = none) : upd3 H p u a = some o := by rw [upd3_ne (ne3 h n)]; exact h
theorem sub_upd {H H2 : Hp3} {p : Addr} {o : O3} (s : Sub3 H H2) (h : H2 p = some o) : Sub3 (upd3 H p o) H2 := fun b u e => by
  by_cases hb : b = p
  · subst hb; rw [upd3_same] at e; cases e; exact h
  · rw [upd3_ne hb] at e; exact s b u e
theorem sub_back {H H2 : Hp3} {p : Addr} (s : Sub3 H H2) (h : H2 p = none) : H p = none := by
  cases e : H p with
  | none => rfl
  | some o => have := s p o e; rw [h] at this; cases this
section
variable {σ : St3} {H : Hp3} {Q : VK3} {D0 : Ends3} {i j : Int} {a b : Addr} {d x y : D} {ds es : List D} {ta tb te tc : TE3} {tr : TA3} {t u : TS3} {cA cB : TT3} {QL : List D → Hp3 → Prop} {QB : Bool → Hp3 → Prop}
theorem g_v3 {k : Nat} (h : σ[k]? = some (some d)) (q : Q d H) : v3 k σ H Q := by unfold v3; rw [h]; exact q
theorem g_c3 (q : Q d H) : c3 d σ H Q := q
theorem g_o3 {r : R3} (h : ta σ H fun x H1 => tb σ H1 fun y H2 => r x y H2 Q) : o3 r ta tb σ H Q := h
theorem g_u3 {r : D → Hp3 → VK3 → Prop} (h : ta σ H fun x H1 => r x H1 Q) : u3 r ta σ H Q := h
theorem g_neg (q : Q (.int (-i)) H) : r3neg (.int i) H Q := q
theorem g_sub (q : Q (.int (i - j)) H) : i3sub (.int i) (.int j) H Q := q
theorem g_add (q : Q (.int (i + j)) H) : r3add (.int i) (.int j) H Q := q
theorem g_cat (ha : H a = some (.lst ds)) (hb : H b = some (.lst es)) (hl : ds.length + es.length ≤ sizeLine) (q : ∀ p, H p = none → Q (.ref p) (upd3 H p (.lst (ds ++ es)))) : r3add (.ref a) (.ref b) H Q := by
  simp only [r3add, ha, hb]; exact ⟨hl, q⟩
theorem g_mul (c : CMul i j) (q : Q (.int (i * j)) H) : i3mul (.int i) (.int j) H Q := ⟨c, q⟩
theorem g_div (c : CDiv i j) (q : Q (.int (i / j)) H) : i3div (.int i) (.int j) H Q := ⟨c, q⟩
theorem g_mod (c : 0 < j) (q : Q (.int (i % j)) H) : i3mod (.int i) (.int j) H Q := ⟨c, q⟩
theorem g_pow (c : CPow i j) (q : Q (.int (i ^ j.toNat)) H) : i3pow (.int i) (.int j) H Q := ⟨c, q⟩
theorem g_le (q : Q (.bl (decide (i ≤ j))) H) : i3le (.int i) (.int j) H Q := q
theorem g_gt (q : Q (.bl (decide (j < i))) H) : i3gt (.int i) (.int j) H Q := q
theorem g_ge (q : Q (.bl (decide (j ≤ i))) H) : i3ge (.int i) (.int j) H Q := q
theorem g_lt (q : Q (.bl (decide (i < j))) H) : r3lt (.int i) (.int j) H Q := q
theorem g_ltT {x1 x2 y1 y2 : Int} (q : Q (.bl (HT.lexLt [x1, x2] [y1, y2])) H) : r3lt (.tup [.int x1, .int x2]) (.tup [.int y1, .int y2]) H Q := q
theorem g_eqI (q : Q (.bl (decide (i = j))) H) : r3eq (.int i) (.int j) H Q := by
  have e : (i == j) = decide (i = j) := rfl
  simp only [r3eq, pyH, pyN, PyData.eqv, e]; exact q
theorem g_neI (q : Q (.bl (!decide (i = j))) H) : r3ne (.int i) (.int j) H Q := by
  have e : (i == j) = decide (i = j) := rfl
  simp only [r3ne, pyH, pyN, PyData.eqv, e]; exact q
theorem g_eqP {x1 x2 y1 y2 : Int} (q : Q (.bl (decide ((x1, x2) = (y1, y2)))) H) : r3eq (.tup [.int x1, .int x2]) (.tup [.int y1, .int y2]) H Q := by
  have e : (PyData.eqvAll [.int x1, .int x2] [.int y1, .int y2]) = decide ((x1, x2) = (y1, y2)) := by
    simp only [PyData.eqvAll, PyData.eqv, Bool.and_true, Prod.mk.injEq, Bool.decide_and]; rfl
  simp only [r3eq, pyH, pyN, mapO, Option.map_some, PyData.eqv, e]; exact q
theorem g_neP {x1 x2 y1 y2 : Int} (q : Q (.bl (!decide ((x1, x2) = (y1, y2)))) H) : r3ne (.tup [.int x1, .int x2]) (.tup [.int y1, .int y2]) H Q := by
  have e : (PyData.eqvAll [.int x1, .int x2] [.int y1, .int y2]) = decide ((x1, x2) = (y1, y2)) := by
    simp only [PyData.eqvAll, PyData.eqv, Bool.and_true, Prod.mk.injEq, Bool.decide_and]; rfl
  simp only [r3ne, pyH, pyN, mapO, Option.map_some, PyData.eqv, e]; exact q
theorem g_isN (q : Q (.bl (isN x)) H) : r3isN x .non H Q := q
theorem g_notN (q : Q (.bl (!isN x)) H) : r3notN x .non H Q := q
theorem g_ixT (h : atI ds i = some d) (q : Q d H) : r3ix (.tup ds) (.int i) H Q := by simp only [r3ix, h]; exact q
theorem g_ixF (h : atI ds i = some d) (q : Q d H) : r3ix (.fl ds) (.int i) H Q := by simp only [r3ix, h]; exact q
theorem g_ixL (ha : H a = some (.lst ds)) (h : atI ds i = some d) (q : Q d H) : r3ix (.ref a) (.int i) H Q := by simp only [r3ix, ha, h]; exact q
theorem g_ts (h : te σ H fun d H1 => bt d H1 QB) : ts3 te σ H QB := h
theorem g_bt {k : Bool} (q : QB k H) : bt (.bl k) H QB := q
theorem g_an (h : cA σ H fun c H1 => if c = true then cB σ H1 QB else QB false H1) : an3 cA cB σ H QB := h
theorem g_or (h : cA σ H fun c H1 => if c = true then QB true H1 else cB σ H1 QB) : or3 cA cB σ H QB := h
theorem g_no (h : cA σ H fun c H1 => QB (!c) H1) : no3 cA σ H QB := h
def avk (tb : TE3) (σ : St3) (x : D) (H1 : Hp3) (Q : VK3) : Prop := match x with
  | .bl c => if c = true then tb σ H1 Q else Q (.bl false) H1
  | _ => False
def ovk (tb : TE3) (σ : St3) (x : D) (H1 : Hp3) (Q : VK3) : Prop := match x with
  | .bl c => if c = true then Q (.bl true) H1 else tb σ H1 Q
  | _ => False
def nvk (x : D) (H1 : Hp3) (Q : VK3) : Prop := match x with
  | .bl c => Q (.bl (!c)) H1
  | _ => False
theorem g_av (h : ta σ H fun x H1 => avk tb σ x H1 Q) : av3 ta tb σ H Q := h
theorem g_avk {c : Bool} (h : if c = true then tb σ H Q else Q (.bl false) H) : avk tb σ (.bl c) H Q := h
theorem g_ov (h : ta σ H fun x H1 => ovk tb σ x H1 Q) : ov3 ta tb σ H Q := h
theorem g_ovk {c : Bool} (h : if c = true then Q (.bl true) H else tb σ H Q) : ovk tb σ (.bl c) H Q := h
theorem g_nv (h : ta σ H fun x H1 => nvk x H1 Q) : nv3 ta σ H Q := h
theorem g_nvk {c : Bool} (q : Q (.bl (!c)) H) : nvk (.bl c) H Q := q
theorem g_if3 (h : cA σ H fun c H1 => if c = true then ta σ H1 Q else tb σ H1 Q) : if3 cA ta tb σ H Q := h
theorem g_nil (q : QL [] H) : nil3 σ H QL := q
theorem g_cons (h : ta σ H fun x H1 => tr σ H1 fun xs H2 => QL (x :: xs) H2) : cons3 ta tr σ H QL := h
theorem g_tp (h : tr σ H fun ds H1 => ds.length ≤ 1000 ∧ Q (.tup ds) H1) : tp3 tr σ H Q := h
theorem g_ls (h : tr σ H fun ds H1 => ds.length ≤ 1000 ∧ ∀ p, H1 p = none → Q (.ref p) (upd3 H1 p (.lst ds))) : ls3 tr σ H Q := h
theorem g_and {q : Prop} {n : Nat} (h : Nat.ble ds.length n = true) (h2 : q) : ds.length ≤ n ∧ q := ⟨Nat.le_of_ble_eq_true h, h2⟩
theorem g_cb {r : List D → Hp3 → VK3 → Prop} (h : tr σ H fun ds H1 => r ds H1 Q) : cb3 r tr σ H Q := h
theorem g_lenT (q : Q (.int ds.length) H) : r3len [.tup ds] H Q := q
theorem g_lenF (q : Q (.int ds.length) H) : r3len [.fl ds] H Q := q
theorem g_lenL (ha : H a = some (.lst ds)) (q : Q (.int ds.length) H) : r3len [.ref a] H Q := by simp only [r3len, ha]; exact q
theorem g_tupT (q : Q (.tup ds) H) : r3tuple [.tup ds] H Q := q
theorem g_tupL (ha : H a = some (.lst ds)) (q : Q (.tup ds) H) : r3tuple [.ref a] H Q := by simp only [r3tuple, ha]; exact q
theorem g_listT (q : ∀ p, H p = none → Q (.ref p) (upd3 H p (.lst ds))) : r3list [.tup ds] H Q := q
theorem g_listL (ha : H a = some (.lst ds)) (q : ∀ p, H p = none → Q (.ref p) (upd3 H p (.lst ds))) : r3list [.ref a] H Q := by simp only [r3list, ha]; exact q
theorem g_sl {tl th : TO3} {r : RSl} (h : te σ H fun x H1 => tl σ H1 fun l H2 => th σ H2 fun u H3 => r x l u H3 Q) : sl3 r te tl th σ H Q := h
theorem g_np {QO : Option Int → Hp3 → Prop} (q : QO none H) : np3 σ H QO := q
def ptk (x : D) (H1 : Hp3) (QO : Option Int → Hp3 → Prop) : Prop := match x with
  | .int i => QO (some i) H1
  | _ => False
theorem g_pt {QO : Option Int → Hp3 → Prop} (h : te σ H fun x H1 => ptk x H1 QO) : pt3 te σ H QO := h
theorem g_ptk {QO : Option Int → Hp3 → Prop} (q : QO (some i) H) : ptk (.int i) H QO := q
theorem g_slF {lo hi : Option Int} (q : ∀ p, H p = none → Q (.ref p) (upd3 H p (.lst (cut3 ds lo hi)))) : r3sl (.fl ds) lo hi H Q := q
theorem g_slL {lo hi : Option Int} (ha : H a = some (.lst ds)) (q : ∀ p, H p = none → Q (.ref p) (upd3 H p (.lst (cut3 ds lo hi)))) : r3sl (.ref a) lo hi H Q := by simp only [r3sl, ha]; exact q
/-! statements -/
theorem g_sq (h : t { D0 with nx := u D0 } σ H) : sq3 t u D0 σ H := h
theorem g_st {k : Nat} (h : te σ H fun x H1 => D0.nx (σ.set k (some x)) H1) : st3 k te D0 σ H := h
theorem g_nx3 (h : D0.nx σ H) : nx3 D0 σ H := h
theorem g_br3 (h : D0.bk σ H) : br3 D0 σ H := h
theorem g_co3 (h : D0.ct σ H) : co3 D0 σ H := h
theorem g_dr (h : te σ H fun _ H1 => D0.nx σ H1) : dr3 te D0 σ H := h
theorem g_rt3 (h : te σ H fun d H1 => D0.rt d H1) : rt3 te D0 σ H := h
theorem g_rn3 (h : D0.rt .non H) : rn3 D0 σ H := h
theorem g_is (h : cA σ H fun b H1 => if b = true then t D0 σ H1 else u D0 σ H1) : is3 cA t u D0 σ H := h
theorem g_as {g : TG3} (h : te σ H fun x H1 => g x σ H1 D0.nx) : as3 te g D0 σ H := h
theorem g_gn {k : Nat} {R : St3 → Hp3 → Prop} (h : R (σ.set k (some d)) H) : gn3 k d σ H R := h
theorem g_g2 {k l : Nat} {R : St3 → Hp3 → Prop} (h : R ((σ.set k (some x)).set l (some y)) H) : g2_3 k l (.tup [x, y]) σ H R := h
theorem g_g3 {k l m : Nat} {z : D} {R : St3 → Hp3 → Prop} (h : R (((σ.set k (some x)).set l (some y)).set m (some z)) H) : g3_3 k l m (.tup [x, y, z]) σ H R := h
theorem g_nx {n : St3 → Hp3 → Prop} {r : VK3} {bk ct : St3 → Hp3 → Prop} (h : n σ H) : Ends3.nx ⟨n, r, bk, ct⟩ σ H := h
theorem g_rt {n : St3 → Hp3 → Prop} {r : VK3} {bk ct : St3 → Hp3 → Prop} (h : r d H) : Ends3.rt ⟨n, r, bk, ct⟩ d H := h
theorem g_bk {n : St3 → Hp3 → Prop} {r : VK3} {bk ct : St3 → Hp3 → Prop} (h : bk σ H) : Ends3.bk ⟨n, r, bk, ct⟩ σ H := h
theorem g_ct {n : St3 → Hp3 → Prop} {r : VK3} {bk ct : St3 → Hp3 → Prop} (h : ct σ H) : Ends3.ct ⟨n, r, bk, ct⟩ σ H := h
theorem g_fin {H' : Hp3} (h : Q d H') (s : Sub3 H' H) : Ends3.rt (fin3 Q) d H := ⟨H', s, h⟩
/-! loops -/
def Lp (g : TG3) (tb : TS3) (D0 : Ends3) (σ : St3) (ds : List D) (keep : Hp3 → Prop) (H1 : Hp3) : Prop := ∃ P : Nat → St3 → Hp3 → Prop, P 0 σ H1 ∧ (∀ i σ H, i ≤ ds.length → P i σ H → keep H) ∧
  (∀ i d σ H, ds[i]? = some d → P i σ H → g d σ H fun σ2 H2 => tb { D0 with nx := P (i + 1), ct := P (i + 1), bk := D0.nx } σ2 H2) ∧ ∀ σ H, P ds.length σ H → D0.nx σ H
theorem g_fo {wi : TI3} {g : TG3} (h : wi σ H fun ds keep H1 => Lp g t D0 σ ds keep H1) : fo3 wi g t D0 σ H := h
theorem Lp.by {g : TG3} {keep : Hp3 → Prop} (P : Nat → St3 → Hp3 → Prop) (h0 : P 0 σ H) (hk : ∀ i σ H, i ≤ ds.length → P i σ H → keep H)
    (turn : ∀ i d σ H, ds[i]? = some d → P i σ H → g d σ H fun σ2 H2 => t { D0 with nx := P (i + 1), ct := P (i + 1), bk := D0.nx } σ2 H2) (fin : ∀ σ H, P ds.length σ H → D0.nx σ H) : Lp g t D0 σ ds keep H := ⟨P, h0, hk, turn, fin⟩
/-- over a range -/
theorem Lp.rng {g : TG3} {lo : Int} {n : Nat} (P : Nat → St3 → Hp3 → Prop) (h0 : P 0 σ H)
    (turn : ∀ (i : Nat) σ H, i < n → P i σ H → g (.int (lo + (i : Int))) σ H fun σ2 H2 => t { D0 with nx := P (i + 1), ct := P (i + 1), bk := D0.nx } σ2 H2) (fin : ∀ σ H, P n σ H → D0.nx σ H) : Lp g t D0 σ (rng lo n) (fun _ => True) H :=
  ⟨P, h0, fun _ _ _ _ _ => trivial, fun i d σ H hd p => by
    have hi : i < n := by
      have := (List.getElem?_eq_some_iff.mp hd).1
      rwa [rng_len] at this
    rw [rng_get hi] at hd
    cases hd
    exact turn i σ H hi p, fun σ H p => fin σ H (by rw [rng_len] at p; exact p)⟩
/-- of the heap only this is kept -/
theorem Lp.heap {g : TG3} {keep : Hp3 → Prop} (F : Hp3 → Prop) (hF : F H) (h : ∀ H', F H' → Lp g t D0 σ ds keep H') : Lp g t D0 σ ds keep H := h H hF
theorem g_ir1 {R : List D → (Hp3 → Prop) → Hp3 → Prop} (h : ta σ H fun x H1 => rg1 x H1 R) : ir1 ta σ H R := h
theorem g_ir2 {R : List D → (Hp3 → Prop) → Hp3 → Prop} (h : ta σ H fun x H1 => tb σ H1 fun y H2 => rg2 x y H2 R) : ir2 ta tb σ H R := h
theorem g_rg1 {R : List D → (Hp3 → Prop) → Hp3 → Prop} (h : R (rng 0 j.toNat) (fun _ => True) H) : rg1 (.int j) H R := h
theorem g_rg2 {R : List D → (Hp3 → Prop) → Hp3 → Prop} (h : R (rng i (j - i).toNat) (fun _ => True) H) : rg2 (.int i) (.int j) H R := h
def ilk (x : D) (H1 : Hp3) (R : List D → (Hp3 → Prop) → Hp3 → Prop) : Prop := match x with
  | .ref a => (match H1 a with
    | some (.lst ds) => R ds (fun H' => H' a = some (.lst ds)) H1
    | _ => False)
  | .fl ds => R ds (fun _ => True) H1
  | _ => False
def itk (x : D) (H1 : Hp3) (R : List D → (Hp3 → Prop) → Hp3 → Prop) : Prop := match x with
  | .tup ds => R ds (fun _ => True) H1
  | _ => False
theorem g_il {R : List D → (Hp3 → Prop) → Hp3 → Prop} (h : te σ H fun x H1 => ilk x H1 R) : il3 te σ H R := h
theorem g_ilR {R : List D → (Hp3 → Prop) → Hp3 → Prop} (ha : H a = some (.lst ds)) (h : R ds (fun H' => H' a = some (.lst ds)) H) : ilk (.ref a) H R := by simp only [ilk, ha]; exact h
theorem g_ilF {R : List D → (Hp3 → Prop) → Hp3 → Prop} (h : R ds (fun _ => True) H) : ilk (.fl ds) H R := h
theorem g_it {R : List D → (Hp3 → Prop) → Hp3 → Prop} (h : te σ H fun x H1 => itk x H1 R) : it3 te σ H R := h
theorem g_itT {R : List D → (Hp3 → Prop) → Hp3 → Prop} (h : R ds (fun _ => True) H) : itk (.tup ds) H R := h
theorem g_wh (P : St3 → Hp3 → Prop) (μ : St3 → Hp3 → Nat) (h0 : P σ H) (turn : ∀ σ H, P σ H → cA σ H fun b H1 => if b = true then t { D0 with nx := fun σ' H' => P σ' H' ∧ μ σ' H' < μ σ H, ct := fun σ' H' => P σ' H' ∧ μ σ' H' < μ σ H, bk := D0.nx } σ H1 else D0.nx σ H1) : wh3 cA t D0 σ H := ⟨P, μ, h0, turn⟩
/-! methods -/
def mtk (r : D → List D → Hp3 → VK3 → Prop) (t : TA3) (σ : St3) (x : D) (H1 : Hp3) (Q : VK3) : Prop := match x with
  | .ref a => (match H1 a with
    | some (.lst _) => t σ H1 fun xs H2 => r x xs H2 Q
    | _ => False)
  | _ => False
theorem g_m3 {r : D → List D → Hp3 → VK3 → Prop} (h : te σ H fun x H1 => mtk r tr σ x H1 Q) : m3 r te tr σ H Q := h
theorem g_mtk {r : D → List D → Hp3 → VK3 → Prop} (ha : H a = some (.lst ds)) (h : tr σ H fun xs H2 => r (.ref a) xs H2 Q) : mtk r tr σ (.ref a) H Q := by simp only [mtk, ha]; exact h
theorem g_app (ha : H a = some (.lst ds)) (hl : ds.length < sizeLine) (q : Q .non (upd3 H a (.lst (ds ++ [y])))) : r3app (.ref a) [y] H Q := by simp only [r3app, ha]; exact ⟨hl, q⟩
theorem g_clr (ha : H a = some (.lst ds)) (q : Q .non (upd3 H a (.lst []))) : r3clr (.ref a) [] H Q := by simp only [r3clr, ha]; exact q
theorem g_ins (ha : H a = some (.lst ds)) (hi : 0 ≤ i ∧ i ≤ ds.length) (hl : ds.length < 1000) (q : Q .non (upd3 H a (.lst (ds.take i.toNat ++ y :: ds.drop i.toNat)))) : r3ins (.ref a) [.int i, y] H Q := by
  simp only [r3ins, ha]; exact ⟨⟨hi, hl⟩, q⟩
/-! sequences, whatever they are -/
theorem seq_ref (ha : H a = some (.lst ds)) : seqH H (.ref a) = some ds := by simp only [seqH, ha]
theorem g_isi {U T : String} (h : tyH H x = some U) (hT : T ∈ kinds) (q : Q (.bl (isT U T)) H) : r3isi [x, .ty T] H Q := by
  simp only [r3isi, h]; exact ⟨hT, q⟩
theorem atI_map {α : Type} {xs : List α} {f : α → D} {k : Int} (h0 : 0 ≤ k) (h1 : k.toNat < xs.length) : atI (xs.map f) k = some (f (xs[k.toNat]'h1)) := by
  have hl : k < ((xs.map f).length : Int) := by rw [List.length_map]; omega
  unfold atI ixN
  rw [if_pos h0, if_pos hl, Option.bind_some, List.getElem?_map, List.getElem?_eq_getElem h1]
  rfl
theorem py_pts : ∀ ps : List Pt, mapO (pyN 4) (ps.map prP) = some (ps.map fun p => PyData.tuple [.int p.1, .int p.2])
  | [] => rfl
  | p :: ps => by
    have e : pyN 4 (prP p) = some (PyData.tuple [.int p.1, .int p.2]) := rfl
    simp only [List.map_cons, mapO, e, py_pts ps]
theorem eqv_pt (p q : Pt) : PyData.eqv (PyData.tuple [.int p.1, .int p.2]) (PyData.tuple [.int q.1, .int q.2]) = decide (p = q) := by
  obtain ⟨a, b⟩ := p
  obtain ⟨c, d⟩ := q
  simp only [PyData.eqv, PyData.eqvAll, Bool.and_true, Prod.mk.injEq, Bool.decide_and]; rfl
theorem any_pt (p : Pt) : ∀ ps : List Pt, (ps.map fun p => PyData.tuple [.int p.1, .int p.2]).any (fun q => PyData.eqv q (PyData.tuple [.int p.1, .int p.2])) = decide (p ∈ ps)
  | [] => by simp
  | q :: ps => by
    rw [List.map_cons, List.any_cons, any_pt p ps, eqv_pt]
    by_cases h : q = p
    · subst h; simp
    · have h' : ¬ p = q := fun e => h e.symm
      simp [h, h']
theorem g_inP {p1 p2 : Int} {ps : List Pt} (h : seqH H y = some (ps.map prP)) (q : Q (.bl (decide ((p1, p2) ∈ ps))) H) : r3in false (.tup [.int p1, .int p2]) y H Q := by
  have e : pyN 4 (.tup [.int p1, .int p2]) = some (PyData.tuple [.int p1, .int p2]) := rfl
  simp only [r3in, e, h, Option.bind_some, py_pts]
  rw [← any_pt (p1, p2) ps] at q
  exact q
theorem g_ninP {p1 p2 : Int} {ps : List Pt} (h : seqH H y = some (ps.map prP)) (q : Q (.bl (!decide ((p1, p2) ∈ ps))) H) : r3in true (.tup [.int p1, .int p2]) y H Q := by
  have e : pyN 4 (.tup [.int p1, .int p2]) = some (PyData.tuple [.int p1, .int p2]) := rfl
  simp only [r3in, e, h, Option.bind_some, py_pts]
  rw [← any_pt (p1, p2) ps] at q
  exact q
/-! comprehensions -/
def Cp (g : TG3) (tc : TT3) (te : TE3) (σ0 : St3) (ds : List D) (keep : Hp3 → Prop) (H1 : Hp3) (Q : VK3) : Prop := (∀ H2 : Hp3, Sub3 H1 H2 → keep H2) ∧ ds.length ≤ 1000 ∧ ∃ rs : List (Option D), rs.length = ds.length ∧
  (∀ (i : Nat) (d : D), ds[i]? = some d → ∀ H2 : Hp3, Sub3 H1 H2 → g d σ0 H2 fun σ2 H4 => tc σ2 H4 fun b H5 =>
    if b = true then te σ2 H5 fun v H6 => Sub3 H2 H6 ∧ rs[i]? = some (some v) else Sub3 H2 H5 ∧ rs[i]? = some none) ∧
  ∀ p, H1 p = none → Q (.ref p) (upd3 H1 p (.lst (rs.filterMap id)))
def blk3 (own : List Str) (fv : FV) (σ : St3) : St3 := own.map (fun _ => none) ++ fv.map fun p => (σ[p.1]?).join
theorem g_cp {wi : TI3} {g : TG3} {own : List Str} {fv : FV} (h : wi σ H fun ds keep H1 => Cp g cA te (blk3 own fv σ) ds keep H1 Q) : cp3 wi g cA te own fv σ H Q := h
theorem g_yes (q : QB true H) : yes3 σ H QB := q
/-- no test -/
theorem Cp.map {α : Type} {g : TG3} {keep : Hp3 → Prop} {σ0 : St3} {as : List α} {E : α → D} (F : α → D) (hk : ∀ H2 : Hp3, Sub3 H H2 → keep H2) (hl : as.length ≤ 1000)
    (hel : ∀ (i : Nat) a, as[i]? = some a → ∀ (R : VK3) (H2 : Hp3), Sub3 H H2 → (∀ H6, Sub3 H2 H6 → R (F a) H6) → g (E a) σ0 H2 fun σ2 H4 => te σ2 H4 R)
    (fin : ∀ p, H p = none → Q (.ref p) (upd3 H p (.lst (as.map F)))) : Cp g yes3 te σ0 (as.map E) keep H Q := by
  refine ⟨hk, by rw [List.length_map]; exact hl, as.map (fun a => some (F a)), by simp, fun i d hd H2 hs => ?_, fun p hp => ?_⟩
  · rw [List.getElem?_map] at hd
    cases e : as[i]? with
    | none => rw [e] at hd; cases hd
    | some a =>
      rw [e] at hd
      cases hd
      have er : (as.map fun a => some (F a))[i]? = some (some (F a)) := by rw [List.getElem?_map, e]; rfl
      exact hel i a e _ H2 hs fun H6 h6 => ⟨h6, er⟩
  · have e : ∀ as : List α, (as.map fun a => some (F a)).filterMap id = as.map F := by
      intro as
      induction as with
      | nil => rfl
      | cons a as ih => rw [List.map_cons, List.filterMap_cons, List.map_cons, ← ih]; rfl
    rw [e]
    exact fin p hp
/-- the same, where pairs come out -/
theorem Cp.mapP {α : Type} {g : TG3} {keep : Hp3 → Prop} {σ0 : St3} {as : List α} {E : α → D} (f : α → Pt) (hk : ∀ H2 : Hp3, Sub3 H H2 → keep H2) (hl : as.length ≤ 1000)
    (hel : ∀ (i : Nat) a, as[i]? = some a → ∀ (R : VK3) (H2 : Hp3), Sub3 H H2 → (∀ H6, Sub3 H2 H6 → R (.tup [.int (f a).1, .int (f a).2]) H6) → g (E a) σ0 H2 fun σ2 H4 => te σ2 H4 R)
    (fin : ∀ p, H p = none → Q (.ref p) (upd3 H p (.lst ((as.map f).map prP)))) : Cp g yes3 te σ0 (as.map E) keep H Q :=
  Cp.map (fun a => prP (f a)) hk hl hel fun p hp => by have := fin p hp; rw [List.map_map] at this; exact this
theorem g_so {sp : Sp3} (h : te σ H fun x H1 => sok sp x H1 Q) : so3 sp te σ H Q := h
theorem g_eqB {k l : Bool} (q : Q (.bl (k == l)) H) : r3eq (.bl k) (.bl l) H Q := by
  simp only [r3eq, pyH, pyN, PyData.eqv]; exact q
theorem cut3_map {α : Type} (xs : List α) (f : α → D) (lo hi : Option Int) : cut3 (xs.map f) lo hi = (cut3 xs lo hi).map f := by
  unfold cut3; rw [List.length_map, List.map_take, List.map_drop]
theorem cut3_init {α : Type} (xs : List α) (x : α) : cut3 (xs ++ [x]) none (some (-1)) = xs := by
  unfold cut3 HT.sIx
  simp only [List.length_append, List.length_singleton]
  rw [if_pos (by decide), show ((-1 : Int) + ((xs.length + 1 : Nat) : Int)).toNat = xs.length by omega]
  simp
/-! tests decided -/
theorem ifD {p A B : Prop} [Decidable p] (h1 : p → A) (h2 : ¬ p → B) : if decide p = true then A else B := by
  by_cases h : p
  · rw [if_pos (decide_eq_true h)]; exact h1 h
  · rw [if_neg (by simpa using h)]; exact h2 h
theorem ifN {p A B : Prop} [Decidable p] (h1 : ¬ p → A) (h2 : p → B) : if (!decide p) = true then A else B := by
  by_cases h : p
  · rw [if_neg (by simpa using h)]; exact h2 h
  · rw [if_pos (by simpa using h)]; exact h1 h
theorem ifB {c : Bool} {A B : Prop} (h1 : c = true → A) (h2 : c = false → B) : if c = true then A else B := by
  cases c
  · rw [if_neg Bool.false_ne_true]; exact h2 rfl
  · rw [if_pos rfl]; exact h1 rfl
theorem ifY {c : Bool} {A B : Prop} (hc : c = true) (h : A) : if c = true then A else B := by rw [if_pos hc]; exact h
theorem ifX {c : Bool} {A B : Prop} (hc : c = false) (h : B) : if c = true then A else B := by subst hc; exact h
end
end L3

namespace L3
open PySem PySem.W PyProof.Rows
/-! ### the tree of questions that a sort of fewer than 64 items asks: what comes out is in order -/
section
variable {cmp : Nat → Nat → (Bool → Shared → Prop) → Shared → Prop} {n : Nat} {z : Nat → Int} {s : Shared}
def ak (z : Nat → Int) (p : Array Nat) (t : Nat) : Int := z (p.getD t 0)
theorem getD_of {p : Array Nat} {t : Nat} : p.getD t 0 = (p[t]?).getD 0 := by simp [Array.getD_eq_getD_getElem?]
def Pm (n : Nat) (p : Array Nat) : Prop := p.Perm (List.range n).toArray
theorem Pm.size {p : Array Nat} (h : Pm n p) : p.size = n := by have := Array.Perm.size_eq h; simpa using this
theorem Pm.lt {p : Array Nat} (h : Pm n p) {t : Nat} (ht : t < n) : p.getD t 0 < n := by
  have hs : t < p.size := by rw [h.size]; exact ht
  have e : p.getD t 0 = p[t] := by rw [getD_of, Array.getElem?_eq_getElem hs]; rfl
  have hm : p[t] ∈ p := Array.getElem_mem hs
  have := (Array.Perm.mem_iff h).mp hm
  rw [e]
  simpa using this
theorem Pm.rev {p : Array Nat} (h : Pm n p) (i j : Nat) : Pm n (kas_rev p i j) := (mirror_perm p i j _).trans h
def CmpOk (cmp : Nat → Nat → (Bool → Shared → Prop) → Shared → Prop) (n : Nat) (z : Nat → Int) (s : Shared) : Prop := ∀ i j C, i < n → j < n → C (decide (z i < z j)) s → cmp i j C s
def SorP (z : Nat → Int) (p : Array Nat) (k : Nat) : Prop := ∀ i j, i ≤ j → j < k → ak z p i ≤ ak z p j
end
end L3

namespace L3
open PySem PySem.Spec PySem.W PyProof.Rows
/-! ### sorted(.., key = f): fewer than 64 items, keys made one after another -/
section
variable {prog : Program} {w : World} {A : Around} {E : Value → Shared → Prop} {s : Shared}
/-- what the caller shows of a sort: J: what holds when the keys ks are made and lie at kS; D: the list that is sorted -/
structure SortJ (prog : Program) (w : World) (A : Around) (s : Shared) (vs : List Value) (f : Value) (z : Nat → Int) (Q : Value → Shared → Prop) (D kS : Addr) (J : Nat → List Value → Nat → Shared → Prop) : Prop where
  start : ∀ e1 h', (∀ b o, s.heap.get? b = some o → h'.get? b = some o) → h'.get? D = some (seqObj "list" #[] e1) → h'.get? kS = some (seqObj "list" #[] 0) → J e1 [] 0 { s with heap := h' }
  stand : ∀ e1 ks e s1, J e1 ks e s1 → s1.heap.get? kS = some (seqObj "list" (List.toArray ks) e) ∧ s1.heap.get? D = some (seqObj "list" #[] e1)
  turn : ∀ e1 ks e s1 x, J e1 ks e s1 → vs[ks.length]? = some x → wpAny (model prog w) A (call f [x]) (fun k s2 => s2.heap.get? kS = some (seqObj "list" (List.toArray ks) e) ∧
    ∀ c h', Heap.SameBut kS s2.heap h' → h'.get? kS = some (seqObj "list" (List.toArray (ks ++ [k])) c) → J e1 (ks ++ [k]) c { s2 with heap := h' }) (fun _ _ => False) s1
  order : ∀ e1 ks e s1, J e1 ks e s1 → ks.length = vs.length → 2 ≤ vs.length → wpAny (model prog w) A (keyKind' (List.toArray ks)) (fun κ s2 => s2 = s1 ∧ CmpOk (kas_ask prog w A κ ks) vs.length z s1) (fun _ _ => False) s1
  fin : ∀ e1 ks e s1 (p : Array Nat), J e1 ks e s1 → ks.length = vs.length → Pm vs.length p → SorP z p vs.length → ∀ h' c, (∀ b o, b ≠ kS → b ≠ D → s1.heap.get? b = some o → h'.get? b = some o) →
    h'.get? D = some (seqObj "list" (List.toArray (p.toList.map fun i => vs.getD i Value.none)) c) → Q (.ref D) { s1 with heap := h' }
end
end L3

namespace L3
open PySem PySem.Spec PyProof.Rows L2
/-! ### sorted(some, key = rank): pairs in the order of their second number first -/
/-- the context one builtin and one method deeper; no exception leaves -/
def Cx.in2 (X : Cx) : Cx := { X with A := X.A.in1.in1, xe := fun _ _ => False }
theorem Ok.in2 {X : Cx} (k : X.Ok) : (Cx.in2 X).Ok := ⟨k.mod, k.kind, k.glob, k.blt, k.above, k.inj, k.has, k.cab, k.hd, k.frames, k.stk, k.exf, k.bs, k.bsz, k.noex, k.exfs, k.funs, k.frf⟩
section
variable {X : Cx} {pins : List (Addr × Obj)} {σ : St} {H H' : Hp} {s : Shared}
theorem Inv.in2 (I : Inv X pins σ H s) : Inv (Cx.in2 X) pins σ H s := ⟨Ok.in2 I.ok, I.os, I.bare, I.base, I.loc, I.cell, I.free, I.freeC, I.pin, I.hok, I.len⟩
end
/-- the keys made so far -/
def Keys (K : PySem.W.Frag) (H : Hp) : List Pt → List Value → Prop := Paired fun c k => ∃ a, k = .ref a ∧ SqT K H a [.int c.2, .int c.1]
theorem Keys.mono {K : PySem.W.Frag} {H H' : Hp} (t : TK H H') {cs : List Pt} {ks : List Value} (h : Keys K H cs ks) : Keys K H' cs ks := Paired.mapP h fun _ _ ⟨a, e, q⟩ => ⟨a, e, t.sqT q⟩
theorem Paired.snoc {α β : Type} {R : α → β → Prop} : ∀ {as : List α} {bs : List β} {a : α} {b : β}, Paired R as bs → R a b → Paired R (as ++ [a]) (bs ++ [b])
  | _, _, _, _, .nil, h => .cons h .nil
  | _, _, _, _, .cons r t, h => .cons r (Paired.snoc t h)
theorem Paired.at {α β : Type} {R : α → β → Prop} : ∀ {as : List α} {bs : List β} {i : Nat} {a : α}, Paired R as bs → as[i]? = some a → ∃ b, bs[i]? = some b ∧ R a b
  | _, _, _, _, .nil, e => by simp at e
  | _, _, 0, _, .cons r _, e => by simp at e; subst e; exact ⟨_, rfl, r⟩
  | _, _, i + 1, a, .cons _ t, e => by
    obtain ⟨b, h1, h2⟩ := Paired.at (i := i) (a := a) t (by simpa using e)
    exact ⟨b, by simpa using h1, h2⟩
section
variable {X : Cx}
end
end L3

namespace L3
open PySem PySem.Spec PyProof.Rows L2
section
variable {X : Cx} {pins : List (Addr × Obj)} {σ : St} {H : Hp} {s : Shared}
end
end L3

namespace L3
open PySem PySem.Spec PyProof.Rows L2
/-! ### dicts keyed by tuples of ints and texts -/
def keysOf : List D → Option (List Key)
  | [] => some []
  | .int i :: ds => (keysOf ds).map (Sum.inl i :: ·)
  | .str x :: ds => (keysOf ds).map (Sum.inr x :: ·)
  | _ :: _ => none
theorem keys_rep {K : PySem.W.Frag} {H : Hp} : ∀ {ds : List D} {xs : List V} {ks : List Key}, RepL K H ds xs → keysOf ds = some ks → xs = ks.map kV
  | _, _, _, .nil, h => by simp only [keysOf, Option.some.injEq] at h; subst h; rfl
  | _, _, _, .cons (d := d) r t, h => by
    cases r with
    | int i =>
      simp only [keysOf, Option.map_eq_some_iff] at h
      obtain ⟨ms, h1, rfl⟩ := h
      rw [keys_rep t h1]; rfl
    | str i =>
      simp only [keysOf, Option.map_eq_some_iff] at h
      obtain ⟨ms, h1, rfl⟩ := h
      rw [keys_rep t h1]; rfl
    | _ => simp [keysOf] at h
abbrev Tab := List (List Key × D)
def dlook (kvs : Tab) (k : List Key) : Option D := (kvs.find? fun kv => decide (kv.1 = k)).map (·.2)
def dput (kvs : Tab) (k : List Key) (d : D) : Tab := if (kvs.any fun kv => decide (kv.1 = k)) = true then kvs.map (fun kv => if kv.1 = k then (kv.1, d) else kv) else kvs ++ [(k, d)]
abbrev TR (K : PySem.W.Frag) (H : Hp) : Tab → List (List Key × V) → Prop := Paired (fun (p : List Key × D) (q : List Key × V) => p.1 = q.1 ∧ Rep K H p.2 q.2)
theorem TR.look {K : PySem.W.Frag} {H : Hp} {k : List Key} : ∀ {kvs : Tab} {ks : List (List Key × V)}, TR K H kvs ks → (valV ks k).isSome = (dlook kvs k).isSome ∧ ∀ d, dlook kvs k = some d → ∃ v, valV ks k = some v ∧ Rep K H d v
  | _, _, .nil => ⟨rfl, fun _ h => nomatch h⟩
  | _, _, .cons (a := p) (b := q) r t => by
    have ih := TR.look (k := k) t
    by_cases e : p.1 = k
    · have e' : q.1 = k := r.1.symm.trans e
      have l1 : ∀ rest : Tab, dlook (p :: rest) k = some p.2 := fun rest => by unfold dlook; rw [List.find?_cons_of_pos (by simpa using e)]; rfl
      rw [valV_pos e', l1]
      exact ⟨rfl, fun d h => ⟨_, rfl, by cases h; exact r.2⟩⟩
    · have e' : ¬ q.1 = k := fun z => e (r.1.trans z)
      have l1 : ∀ rest : Tab, dlook (p :: rest) k = dlook rest k := fun rest => by unfold dlook; rw [List.find?_cons_of_neg (by simpa using e)]
      rw [valV_neg e', l1]
      exact ih
theorem TR.any {K : PySem.W.Frag} {H : Hp} {k : List Key} : ∀ {kvs : Tab} {ks : List (List Key × V)}, TR K H kvs ks → (kvs.any fun kv => decide (kv.1 = k)) = ks.any fun kv => decide (kv.1 = k)
  | _, _, .nil => rfl
  | _, _, .cons r t => by rw [List.any_cons, List.any_cons, TR.any t, r.1]
theorem TR.repl {K : PySem.W.Frag} {H : Hp} {k : List Key} {d : D} {v : V} (rd : Rep K H d v) : ∀ {kvs : Tab} {ks : List (List Key × V)}, TR K H kvs ks → TR K H (kvs.map fun kv => if kv.1 = k then (kv.1, d) else kv) (ks.map fun kv => if kv.1 = k then (kv.1, v) else kv)
  | _, _, .nil => .nil
  | _, _, .cons (a := p) (b := q) r t => by
    refine .cons ?_ (TR.repl rd t)
    dsimp only
    by_cases e : p.1 = k
    · rw [if_pos e, if_pos (r.1.symm.trans e)]; exact ⟨r.1, rd⟩
    · rw [if_neg e, if_neg (fun z => e (r.1.trans z))]; exact r
theorem TR.put {K : PySem.W.Frag} {H : Hp} {k : List Key} {d : D} {v : V} {kvs : Tab} {ks : List (List Key × V)} (r : TR K H kvs ks) (rd : Rep K H d v) : TR K H (dput kvs k d) (putK ks k v) := by
  unfold dput putK
  rw [← TR.any r]
  split
  · exact TR.repl rd r
  · exact Paired.snoc r ⟨rfl, rd⟩
theorem TR.mono {K : PySem.W.Frag} {H H' : Hp} (t : TK H H') {kvs : Tab} {ks : List (List Key × V)} (r : TR K H kvs ks) : TR K H' kvs ks := Paired.mapP r fun _ _ z => ⟨z.1, z.2.mono t⟩
theorem HR.setD {K : PySem.W.Frag} {H : Hp} {H3 : Hp3} (h : HR K H3 H) {p : Addr} {ks : List (List Key × V)} {kvs : Tab} (t : TK H (upd H p (.dT ks))) (r : TR K (upd H p (.dT ks)) kvs ks) : HR K (upd3 H3 p (.dic kvs)) (upd H p (.dT ks)) := h.set (o3 := .dic kvs) t ⟨ks, upd_same, r⟩
/-! in, not in -/
def r3inD (neg : Bool) : R3 := fun x y H Q => match x, y with
  | .tup ds, .ref a => (match keysOf ds, H a with
    | some k, some (.dic kvs) => Q (.bl (if neg then !(dlook kvs k).isSome else (dlook kvs k).isSome)) H
    | _, _ => False)
  | _, _ => False
def r3inX (neg : Bool) : R3 := fun x y H Q => r3in neg x y H Q ∨ r3inD neg x y H Q
section
variable {X : Cx}
theorem op3_inX (hu : X.A.units + 64 < cLine) : OpR X (compareOp .In) (lift2 X.K (r3inX false)) := by
  intro pins s σ H x y v u Q I rx ry h
  obtain ⟨dx, dy, H3, Q3, hr, rdx, rdy, t, k⟩ := h
  rcases t with t | t
  · exact op3_in hu pins s σ H x y v u Q I rx ry ⟨dx, dy, H3, Q3, hr, rdx, rdy, t, k⟩
  · cases rdx with
    | tup ha ra =>
      cases rdy with
      | ref a =>
        simp only [r3inD] at t
        split at t
        · rename_i ks kvs e1 e2
          obtain ⟨vs, gd, rd⟩ := hr a _ e2
          cases ry
          have ex := keys_rep ra e1
          subst ex
          refine d_in (by omega) I (DGet.t gd ha) rx fun s' I' => ⟨.bl _, H, I', rfl, ?_⟩
          rw [(TR.look (k := ks) rd).1]
          exact k _ _ _ _ TK.refl hr (.bl _) t
        · exact t.elim
      | _ => exact t.elim
    | _ => exact t.elim
theorem op3_notInX (hu : X.A.units + 64 < cLine) : OpR X (compareOp .NotIn) (lift2 X.K (r3inX true)) := by
  intro pins s σ H x y v u Q I rx ry h
  obtain ⟨dx, dy, H3, Q3, hr, rdx, rdy, t, k⟩ := h
  rcases t with t | t
  · exact op3_notIn hu pins s σ H x y v u Q I rx ry ⟨dx, dy, H3, Q3, hr, rdx, rdy, t, k⟩
  · cases rdx with
    | tup ha ra =>
      cases rdy with
      | ref a =>
        simp only [r3inD] at t
        split at t
        · rename_i ks kvs e1 e2
          obtain ⟨vs, gd, rd⟩ := hr a _ e2
          cases ry
          have ex := keys_rep ra e1
          subst ex
          refine d_notIn (by omega) I (DGet.t gd ha) rx fun s' I' => ⟨.bl _, H, I', rfl, ?_⟩
          rw [(TR.look (k := ks) rd).1]
          exact k _ _ _ _ TK.refl hr (.bl _) t
        · exact t.elim
      | _ => exact t.elim
    | _ => exact t.elim
/-! d[k] = v -/
def dpk (v x y : D) (σ : St3) (H : Hp3) (R : St3 → Hp3 → Prop) : Prop := match x, y with
  | .ref a, .tup ds => (match keysOf ds, H a with
    | some k, some (.dic kvs) => kvs.length < 1000 ∧ R σ (upd3 H a (.dic (dput kvs k v)))
    | _, _ => False)
  | _, _ => False
def dp3 (td ty tv : TE3) : TS3 := fun D0 σ H => tv σ H fun v H1 => td σ H1 fun x H2 => ty σ H2 fun y H3 => dpk v x y σ H3 D0.nx
theorem s3_dput {o i value : Expr} {td ty tv : TE3} {pos pos' : Pos} (hu : X.A.units + 64 < cLine) (ho : PE3 X o td) (hi : PE3 X i ty) (hv : PE3 X value tv) (hs : swapsWith value (some (.Subscript o i pos')) pos.line X.env = pure false := by rfl) :
    PS3 X (.Assign [.Subscript o i pos'] value pos) (dp3 td ty tv) :=
  ps_imp (ps_dput (by omega) ho hi hv hs) fun D0 σ H ⟨σ3, H3, D3, sr, hr, t, k⟩ => ⟨σ3, H3, _, sr, hr, t, fun dv v H3a Ha tka hra rv qa => ⟨σ3, H3a, _, sr.mono tka, hra, qa, fun dx x H3b Hb tkb hrb rx qb => ⟨σ3, H3b, _, (sr.mono tka).mono tkb, hrb, qb, fun dy y H3c Hc tkc hrc ry qc => by
    cases rx with
    | ref a =>
      cases ry with
      | tup hb rb =>
        simp only [dpk] at qc
        split at qc
        · rename_i ks kvs e1 e2
          obtain ⟨vs, gd, rd⟩ := hrc a _ e2
          have ex := keys_rep rb e1
          subst ex
          obtain ⟨hl, qc⟩ := qc
          refine ⟨a, _, rfl, DPut.t gd hb (by rw [← Paired.length rd]; exact small1000 (Nat.le_of_lt hl)), ?_⟩
          have tt := TK.dT (o := .dT (putK vs ks v)) gd
          exact k.nx _ _ _ _ ((tka.trans (tkb.trans tkc)).trans tt) ((((sr.mono tka).mono tkb).mono tkc).mono tt) (hrc.setD tt (TR.put (TR.mono tt rd) (((rv.mono tkb).mono tkc).mono tt))) qc
        · exact qc.elim
      | _ => exact qc.elim
    | _ => exact qc.elim⟩⟩⟩
/-! {} -/
def dn3 : TE3 := fun _ H Q => ∀ p, H p = none → Q (.ref p) (upd3 H p (.dic []))
theorem p3_dnew {pos : Pos} : PE3 X (.Dict [] [] pos) dn3 := pe_imp pe_dnewT fun _ _ _ ⟨_, _, _, _, hr, t, k⟩ => fun p n => k _ _ _ _ (TK.fresh n) (hr.setD (TK.fresh n) .nil) (.ref p) (t p (hr.fresh n))
/-! {k: v} -/
def ddk (p : Addr) (x y : D) (H : Hp3) (Q : VK3) : Prop := match x with
  | .tup ds => H p = some (.dic []) ∧ (match keysOf ds with
    | some k => Q (.ref p) (upd3 H p (.dic [(k, y)]))
    | none => False)
  | _ => False
def dd3 (tk tv : TE3) : TE3 := fun σ H Q => ∀ p, H p = none → tk σ (upd3 H p (.dic [])) fun x H1 => tv σ H1 fun y H2 => ddk p x y H2 Q
end
/-! an exception that is never raised -/
end L3

namespace L3
open PySem PySem.Spec PyProof.Rows L2
/-! ### dict(pairs): a list of pairs, the first of each a tuple of ints and texts -/
section
variable {prog : Program} {w : World} {A : Around} {E : Value → Shared → Prop} {s : Shared}
end
/-- the items of the list: pairs of a key's tuple and a value -/
def PairsIn (H : Hp) : List V → List (List Key × V) → Prop := Paired fun v p => ∃ t b, v = .ref t ∧ H t = some (.tup [.ref b, p.2]) ∧ H b = some (.tup (p.1.map kV))
theorem PairsIn.mono {H H' : Hp} (t : ∀ b xs, H b = some (.tup xs) → H' b = some (.tup xs)) {vs : List V} {ps : List (List Key × V)} (h : PairsIn H vs ps) : PairsIn H' vs ps := Paired.mapP h fun _ _ ⟨a, b, e, h1, h2⟩ => ⟨a, b, e, t _ _ h1, t _ _ h2⟩
section
variable {X : Cx} {pins : List (Addr × Obj)} {σ : St}
end
/-! over data -/
end L3
namespace L3
open PySem PySem.Spec PyProof.Rows L2
end L3

namespace L3
open PySem L2
/-! ### steps: dicts of pairs -/
def kP (c : Pt) : List Key := [Sum.inl c.1, Sum.inl c.2]
theorem kP_inj {a b : Pt} (h : kP a = kP b) : a = b := by
  unfold kP at h
  simp only [List.cons.injEq, Sum.inl.injEq, and_true] at h
  exact Prod.ext h.1 h.2
section
variable {σ : St3} {H : Hp3} {Q : VK3} {D0 : Ends3} {a p : Addr} {x y : D} {ta tb te : TE3} {p1 p2 : Int} {ps : List Pt}
theorem g_inX (h : seqH H y = some (ps.map prP)) (q : Q (.bl (decide ((p1, p2) ∈ ps))) H) : r3inX false (.tup [.int p1, .int p2]) y H Q := .inl (g_inP h q)
theorem g_ninX (h : seqH H y = some (ps.map prP)) (q : Q (.bl (!decide ((p1, p2) ∈ ps))) H) : r3inX true (.tup [.int p1, .int p2]) y H Q := .inl (g_ninP h q)
theorem g_dp (h : te σ H fun v H1 => ta σ H1 fun x H2 => tb σ H2 fun y H3 => dpk v x y σ H3 D0.nx) : dp3 ta tb te D0 σ H := h
theorem g_dn (h : ∀ p, H p = none → Q (.ref p) (upd3 H p (.dic []))) : dn3 σ H Q := h
theorem g_dd (h : ∀ p, H p = none → ta σ (upd3 H p (.dic [])) fun x H1 => tb σ H1 fun y H2 => ddk p x y H2 Q) : dd3 ta tb σ H Q := h
end
end L3

/-! ### all, any, sum of a list -/
namespace L3
open PySem PySem.Spec PyProof.Rows L2
def boolsOf : List D → Option (List Bool)
  | [] => some []
  | .bl b :: ds => (boolsOf ds).map (b :: ·)
  | _ :: _ => none
theorem boolsOf_map (bs : List Bool) : boolsOf (bs.map D.bl) = some bs := by
  induction bs with
  | nil => rfl
  | cons b bs ih => rw [List.map_cons, boolsOf, ih]; rfl
theorem boolsOf_inv : ∀ {ds : List D} {bs : List Bool}, boolsOf ds = some bs → ds = bs.map D.bl
  | [], bs, h => by cases h; rfl
  | d :: ds, bs, h => by
    cases d with
    | bl b =>
      rw [boolsOf, Option.map_eq_some_iff] at h
      obtain ⟨cs, hc, rfl⟩ := h
      rw [boolsOf_inv hc]; rfl
    | _ => cases h
/-- of a list of truths -/
def r3tr (f : List Bool → Bool) : List D → Hp3 → VK3 → Prop := fun ds H Q => match ds with
  | [.ref a] => (match H a with
    | some (.lst xs) => (match boolsOf xs with
      | some bs => Q (.bl (f bs)) H
      | none => False)
    | _ => False)
  | _ => False
abbrev r3any : List D → Hp3 → VK3 → Prop := r3tr fun bs => bs.any id
theorem g_tr {f : List Bool → Bool} {bs : List Bool} {a : Addr} {H : Hp3} {Q : VK3} (ha : H a = some (.lst (bs.map D.bl))) (q : Q (.bl (f bs)) H) : r3tr f [.ref a] H Q := by
  simp only [r3tr, ha, boolsOf_map]; exact q
/-! ### a text's letters -/
def lets (z : Str) : List D := z.cps.toList.map fun c => D.str ⟨#[c]⟩
def iz3 (te : TE3) : TI3 := fun σ H R => te σ H fun x H1 => match x with
  | .str z => R (lets z) (fun _ => True) H1
  | _ => False
def izk (x : D) (H : Hp3) (R : List D → (Hp3 → Prop) → Hp3 → Prop) : Prop := match x with
  | .str z => R (lets z) (fun _ => True) H
  | _ => False
theorem g_iz {te : TE3} {σ : St3} {H : Hp3} {R : List D → (Hp3 → Prop) → Hp3 → Prop} (h : te σ H fun x H1 => izk x H1 R) : iz3 te σ H R := h
theorem g_izS {z : Str} {H : Hp3} {R : List D → (Hp3 → Prop) → Hp3 → Prop} (h : R (lets z) (fun _ => True) H) : izk (.str z) H R := h
/-! ### texts' methods -/
def strsOf : List D → Option (List Str)
  | [] => some []
  | .str b :: ds => (strsOf ds).map (b :: ·)
  | _ :: _ => none
theorem strsOf_map (bs : List Str) : strsOf (bs.map D.str) = some bs := by
  induction bs with
  | nil => rfl
  | cons b bs ih => rw [List.map_cons, strsOf, ih]; rfl
/-- texts behind one another, z between them -/
def joinZ (z : Str) (ys : List Str) : Str := ⟨(ys.drop 1).foldl (fun acc p => acc ++ z.cps ++ p.cps) (ys.headD ⟨#[]⟩).cps⟩
theorem foldl_cps (z : Str) (hz : z.cps = #[]) : ∀ (ys : List Str) (acc : Array Nat), ys.foldl (fun acc p => acc ++ z.cps ++ p.cps) acc = acc ++ (ys.map fun y => y.cps.toList).flatten.toArray
  | [], acc => by simp
  | y :: ys, acc => by rw [List.foldl_cons, foldl_cps z hz ys, hz]; apply Array.ext'; simp
theorem joinZ_nil {z : Str} (hz : z.cps = #[]) (ys : List Str) : joinZ z ys = ⟨(ys.map fun y => y.cps.toList).flatten.toArray⟩ := by
  unfold joinZ
  rw [foldl_cps z hz]
  cases ys with
  | nil => simp
  | cons y ys => simp
/-- of single letters -/
theorem joinZ_lets {z : Str} (hz : z.cps = #[]) (cs : List Nat) : joinZ z (cs.map fun c => ⟨#[c]⟩) = ⟨cs.toArray⟩ := by
  rw [joinZ_nil hz, List.map_map]
  congr 2
  induction cs with
  | nil => rfl
  | cons c cs ih => simp only [List.map_cons, List.flatten_cons, ih]; rfl
def r3join : D → List D → Hp3 → VK3 → Prop := fun x xs H Q => match x, xs with
  | .str z, [.ref a] => (match H a with
    | some (.lst ds) => (match strsOf ds with
      | some ys => (ys.map fun y => y.cps.size).sum + ys.length * z.cps.size ≤ 16777216 ∧ Q (.str (joinZ z ys)) H
      | none => False)
    | _ => False)
  | _, _ => False
/-- a method of a text -/
def mz3 (r : D → List D → Hp3 → VK3 → Prop) (to : TE3) (t : TA3) : TE3 := fun σ H Q => to σ H fun x H1 => (match x with
  | .str _ => t σ H1 fun xs H2 => r x xs H2 Q
  | _ => False)
def mzk (r : D → List D → Hp3 → VK3 → Prop) (t : TA3) (σ : St3) (x : D) (H1 : Hp3) (Q : VK3) : Prop := match x with
  | .str _ => t σ H1 fun xs H2 => r x xs H2 Q
  | _ => False
theorem g_mz {r : D → List D → Hp3 → VK3 → Prop} {to : TE3} {t : TA3} {σ : St3} {H : Hp3} {Q : VK3} (h : to σ H fun x H1 => mzk r t σ x H1 Q) : mz3 r to t σ H Q := h
theorem g_mzk {r : D → List D → Hp3 → VK3 → Prop} {t : TA3} {σ : St3} {z : Str} {H : Hp3} {Q : VK3} (h : t σ H fun xs H2 => r (.str z) xs H2 Q) : mzk r t σ (.str z) H Q := h
theorem g_join {z : Str} {ys : List Str} {a : Addr} {H : Hp3} {Q : VK3} (ha : H a = some (.lst (ys.map D.str))) (hl : (ys.map fun y => y.cps.size).sum + ys.length * z.cps.size ≤ 16777216) (q : Q (.str (joinZ z ys)) H) : r3join (.str z) [.ref a] H Q := by
  simp only [r3join, ha, strsOf_map]; exact ⟨hl, q⟩
/-- a text's slice -/
def cutZ (z : Str) (lo hi : Option Int) : Str := ⟨(cut3 z.cps.toList lo hi).toArray⟩
end L3

namespace L3
open PySem PySem.Spec PyProof.Rows PySem.Calls L2
section
variable {X : Cx}
theorem bools_at : ∀ {bs : List Bool} {us : List Value} {i : Nat} {v : Value}, Vals (bs.map V.bl) us → us[i]? = some v → ∃ b, bs[i]? = some b ∧ v = .bool b
  | [], _, i, v, .nil, e => by simp at e
  | b :: bs, _, 0, v, .cons r t, e => by
    simp at e; subst e
    exact ⟨b, rfl, r⟩
  | b :: bs, _, i + 1, v, .cons r t, e => by
    obtain ⟨c, h1, h2⟩ := bools_at (bs := bs) (i := i) t (by simpa using e)
    exact ⟨c, by simpa using h1, h2⟩
theorem RepL.bools_inv {K : PySem.W.Frag} {H : Hp} : ∀ {bs : List Bool} {vs : List V}, RepL K H (bs.map D.bl) vs → vs = bs.map V.bl
  | [], _, .nil => rfl
  | _ :: bs, _, .cons (.bl _) t => by rw [List.map_cons, RepL.bools_inv (bs := bs) t]
theorem iter_kept {h h' : Heap} {o : Obj} (hk : ∀ b x, b ∉ [h.objs.size] → (h.push o).get? b = some x → h'.get? b = some x) (b : Addr) (x : Obj) (e : h.get? b = some x) : h'.get? b = some x := by
  refine hk b x (fun hm => ?_) (Heap.get?_push_of_some _ e)
  rw [List.mem_singleton.mp hm] at e
  exact absurd (Heap.lt_size e) (Nat.lt_irrefl _)
theorem call_anyL (hc : X.calm = true) : CallR X (.builtin "any") (fun xs H Q => ∃ (a : Addr) (bs : List Bool), xs = [.ref a] ∧ SqL X.K H a (bs.map V.bl) ∧ Q (.bl (bs.any id)) H) := by
  intro pins s σ H xs us Q I r h
  obtain ⟨a, bs, rfl, hq, q⟩ := h
  obtain ⟨u, rfl, ru⟩ := vals1 r
  cases ru
  obtain ⟨its, rv, pl, _⟩ := I.list hq
  have hl := pl.isList
  have hlt : a < s.heap.objs.size := by obtain ⟨_, e, _⟩ := hl; exact Heap.lt_size e
  have hlen : its.length = bs.length := by have := rv.length; rw [List.length_map] at this; exact this.symm
  refine call_any_walk (wpAny_pyIter_list hl ?_)
  refine ⟨s.heap.objs.size, [s.heap.objs.size, a], [s.heap.objs.size], its.toArray.size, _, _, fun i => (bs[i]?).getD false, rfl,
    Walks.list (A := X.A.in1) (I.ok.hd hc) _ a (Nat.ne_of_lt hlt) its.toArray, ⟨⟨_, Heap.get?_push_size _ rfl, rfl, rfl⟩, hl.push _⟩, ?_, ?_⟩
  · intro i v s' Q' E' hP hQ
    obtain ⟨b, e, rfl⟩ := bools_at rv (i := i) (v := v) (by simpa using hP)
    dsimp only at hQ
    rw [e, Option.getD_some] at hQ
    exact wpAny_truthy_bool hQ
  · intro h' tk hk
    rw [List.size_toArray, hlen, LSm.range_any]
    exact ⟨.bl (bs.any id), H, I.kept (iter_kept hk), rfl, q⟩
theorem lift_tr {id : String} {f : List Bool → Bool} (h : CallR X (.builtin id) (fun xs H Q => ∃ (a : Addr) (bs : List Bool), xs = [.ref a] ∧ SqL X.K H a (bs.map V.bl) ∧ Q (.bl (f bs)) H)) : CallR X (.builtin id) (liftC X.K (r3tr f)) := by
  intro pins s σ H xs us Q I rs t
  obtain ⟨ds, H3, Q3, hr, rd, t, k⟩ := t
  cases rd with
  | nil => exact t.elim
  | cons r1 r2 =>
    cases r2 with
    | cons _ _ => cases r1 <;> exact t.elim
    | nil =>
      cases r1 with
      | ref a =>
        simp only [r3tr] at t
        split at t
        · rename_i ds ha
          split at t
          · rename_i bs e
            obtain ⟨vs, ga, ra⟩ := hr a _ ha
            have z := boolsOf_inv e
            subst z
            have z := ra.bools_inv
            subst z
            exact h pins s σ H _ us Q I rs ⟨a, bs, rfl, SqL.of ga, k _ _ _ _ TK.refl hr (.bl _) t⟩
          · exact t.elim
        · exact t.elim
      | _ => exact t.elim
theorem cb3_any (hc : X.calm = true) : CallR X (.builtin "any") (liftC X.K r3any) := lift_tr (call_anyL hc)
end
end L3

/-! ### a text, walked -/
namespace L3
open PySem PySem.Spec PyProof.Rows L2
/-- the letters of x -/
def Itx (x : Str) : It := ⟨fun i _ => i < x.cps.size, fun i H v H' => H' = H ∧ ∃ c, x.cps[i]? = some c ∧ v = .str ⟨#[c]⟩, fun i _ => x.cps.size ≤ i⟩
theorem turn_text {P : Program} {w : World} {K : PySem.W.Frag} {tg : Expr} {ty : String} {x : Str} {t : Tok} (it : Addr)
    (hn : ["enumerate", "zip", "dict_itemiterator", "dict_reverseitemiterator", "odict_iterator", "itertools.zip_longest", "itertools.pairwise"].contains ty = false)
    (W : ∀ A' : Around, A'.handled = none → Walks P w A' it [it] [it] x.cps.size (SignAt x) (fun i h => h.IsStrIter it ty x t i))
    (S : ∀ (A : Around) (i : Nat) (s : Shared) (Q : Value → Shared → Prop) (E : Value → Shared → Prop), s.heap.IsStrIter it ty x t i → Q (.ref it) s → wpAny (model P w) A (pyIter (.ref it)) Q E s) :
    Turn P w K tg (Itx x) [it] it (fun i h => i ≤ x.cps.size ∧ h.IsStrIter it ty x t i) where
  mem := List.mem_singleton.mpr rfl
  obj := by
    rintro i h ⟨_, o, e, _, d⟩ b hb
    rw [List.mem_singleton.mp hb]
    exact ⟨o, e, fun v z => by rw [d] at z; cases z⟩
  keep := by
    rintro i h h' ⟨l, o, e, c⟩ k
    exact ⟨l, o, k it (List.mem_singleton.mpr rfl) o e, c⟩
  item := by
    intro X hP hw hK hc i pins s σ H E I hf st hg
    subst hP hw hK
    obtain ⟨f0, f1, f2, f3, f4, f5⟩ := hf it (List.mem_singleton.mpr rfl)
    refine (W X.A (I.ok.hd hc)).item i s _ _ hg st.2 fun v h' tk hv st' kk => ?_
    obtain ⟨c, u, hcx, rfl⟩ := hv
    have I1 : L2.Inv X pins σ H { s with heap := h', toks := tk } := I.turned (fun b o hb e => kk b o (fun z => hb (List.mem_singleton.mp z)) e) f0 f1 f3 f4 f5
    obtain ⟨o, e, hcl, d⟩ := id st'
    exact ⟨_, rfl, go_of (s := { s with heap := h', toks := tk }) e hcl d hn ⟨.str ⟨#[c]⟩, H, I1, ⟨u, rfl⟩, ⟨rfl, c, hcx, rfl⟩, ⟨hg, st'⟩, fun b hb => (hf b hb).1⟩⟩
  done := by
    intro X hP hw hK hc i pins s σ H E I hf st hg
    subst hP hw hK
    obtain ⟨f0, f1, f2, f3, f4, f5⟩ := hf it (List.mem_singleton.mpr rfl)
    have hi : i = x.cps.size := Nat.le_antisymm st.1 hg
    subst hi
    exact (W X.A (I.ok.hd hc)).done s _ _ st.2 fun h' tk kk => ⟨rfl, I.turned (t' := tk) (fun b o hb e => kk b o (fun z => hb (List.mem_singleton.mp z)) e) f0 f1 f3 f4 f5⟩
  self := fun A i s Q E st h => S A i s Q E st.2 h
section
variable {X : Cx}
def iText (tl : TE) : TI := fun σ H R => tl σ H fun x H1 => ∃ z, x = .str z ∧ R (Itx z) H1
theorem pi_text {tg l : Expr} {tl : TE} (hl : PE X l tl) : PI X tg l (iText tl) := by
  intro pins s σ H R I h
  refine thn (hl pins s σ H _ I h) fun v s1 ⟨x, H1, I1, r1, q1⟩ => ?_
  obtain ⟨z, rfl, q⟩ := q1
  obtain ⟨t, rfl⟩ := r1
  have fp : ∀ b ∈ [s1.heap.objs.size], FpOk X pins H1 b := fun b hb => by
    rw [List.mem_singleton.mp hb]
    exact I1.fpOk (Nat.le_refl _) (I1.hok.fresh (Nat.le_refl _))
  cases ha : z.cps.all (· < 128)
  · refine wpAny_pyIter_wide ha ?_
    exact ⟨s1.heap.objs.size, [s1.heap.objs.size], _, _, H1, rfl, I1.kept (t' := s1.toks) fun b o e => Heap.get?_push_of_some _ e,
      turn_text (ty := "str_iterator") (x := z) (t := t) _ (by decide) (fun A' hA => Walks.strWide hA _ z t) (fun A i s Q E st h => wpAny_pyIter_striter_wide st h), ⟨Nat.zero_le _, _, Heap.get?_push_size _ rfl, rfl, rfl⟩, fp, q⟩
  · refine wpAny_pyIter_ascii ha ?_
    exact ⟨s1.heap.objs.size, [s1.heap.objs.size], _, _, H1, rfl, I1.kept (t' := s1.toks) fun b o e => Heap.get?_push_of_some _ e,
      turn_text (ty := "str_ascii_iterator") (x := z) (t := t) _ (by decide) (fun A' hA => Walks.strAscii hA _ z t) (fun A i s Q E st h => wpAny_pyIter_striter_ascii st h), ⟨Nat.zero_le _, _, Heap.get?_push_size _ rfl, rfl, rfl⟩, fp, q⟩
theorem itOk_text {K : PySem.W.Frag} {H : Hp} {z : Str} : ItOk K H (lets z) (fun _ => True) (Itx z) := fun H3 H' tk hr _ => by
  have hl : (lets z).length = z.cps.size := by unfold lets; rw [List.length_map, Array.length_toList]
  refine ⟨fun i hi => ⟨by rw [hl] at hi; exact hi, fun x H'' y => ?_⟩, by rw [hl]; exact Nat.le_refl _⟩
  obtain ⟨e, c, hc, rfl⟩ := y
  subst e
  refine ⟨TK.refl, hr, .str ⟨#[c]⟩, ?_, .str _⟩
  unfold lets
  rw [List.getElem?_map, Array.getElem?_toList, hc]
  rfl
theorem i3_text {tg e : Expr} {te : TE3} (h : PE3 X e te) : PI3 X tg e (iz3 te) :=
  pi_imp (pi_text h) fun _ _ _ ⟨σ3, H3, R3, sr, hr, t, k⟩ => ⟨σ3, H3, _, sr, hr, t, fun x v H3a Ha tka hra rx qa => by
    cases rx with
    | str z => exact ⟨z, rfl, k _ _ _ _ _ tka hra itOk_text qa⟩
    | _ => exact qa.elim⟩
end
end L3

/-! ### texts' methods: join, index -/
namespace L3
open PySem PySem.Spec PyProof.Rows L2
section
variable {X : Cx}
end
end L3

/-! ### slices of texts -/
namespace L3
open PySem PySem.Spec PyProof.Rows L2
section
variable {X : Cx}
end
end L3

/-! ### numbers of some bits; tuples of numbers -/
namespace L3
open PySem L2
def Bt (n : Nat) (i : Int) : Prop := i.natAbs < 2 ^ n
section
variable {m n : Nat} {i j : Int}
theorem Bt.mono (h : Bt m i) (l : m ≤ n) : Bt n i := Nat.lt_of_lt_of_le h (Nat.pow_le_pow_right (by decide) l)
theorem Bt.of_le (h : Bt m j) (l : i.natAbs ≤ j.natAbs) : Bt m i := Nat.lt_of_le_of_lt l h
theorem Bt.add (h : Bt m i) (g : Bt n j) : Bt (max m n + 1) (i + j) := by
  have h' := Bt.mono h (Nat.le_max_left m n)
  have g' := Bt.mono g (Nat.le_max_right m n)
  unfold Bt at *
  rw [Nat.pow_succ]
  generalize 2 ^ max m n = p at *
  omega
theorem Bt.neg (h : Bt m i) : Bt m (-i) := by unfold Bt at *; rw [Int.natAbs_neg]; exact h
theorem Bt.sub (h : Bt m i) (g : Bt n j) : Bt (max m n + 1) (i - j) := by rw [Int.sub_eq_add_neg]; exact h.add g.neg
theorem Bt.mul (h : Bt m i) (g : Bt n j) : Bt (m + n) (i * j) := by
  unfold Bt at *
  rw [Int.natAbs_mul, Nat.pow_add]
  exact Nat.mul_lt_mul'' h g
theorem Bt.div (h : Bt m i) : Bt m (i / j) := h.of_le (Int.natAbs_ediv_le_natAbs i j)
theorem Bt.mod (g : Bt n j) (hj : 0 < j) : Bt n (i % j) := by
  refine g.of_le ?_
  have h1 := Int.emod_nonneg i (Int.ne_of_gt hj)
  have h2 := Int.emod_lt_of_pos i hj
  omega
theorem Bt.lit (h : i.natAbs < 2 ^ n) : Bt n i := h
theorem Bt.rng (h1 : -(2 ^ n : Nat) < i) (h2 : i < (2 ^ n : Nat)) : Bt n i := by unfold Bt; generalize 2 ^ n = p at *; omega
end
def CMulW (i j : Int) : Prop := CMul i j ∨ ∃ m n, Bt m i ∧ Bt n j ∧ m + n ≤ 134217728
theorem CMulW.of {m n : Nat} {i j : Int} (h : Bt m i) (g : Bt n j) (l : m + n ≤ 134217728) : CMulW i j := .inr ⟨m, n, h, g, l⟩
def CDivW (_ j : Int) : Prop := 0 < j ∧ Bt 8999 j
def i3mulW : R3 := rI3 CMulW fun i j => .int (i * j)
def i3divW : R3 := rI3 CDivW fun i j => .int (i / j)
section
variable {σ : St3} {H : Hp3} {Q : VK3} {i j : Int} {d x y : D} {ds es : List D}
theorem g_mulW (c : CMulW i j) (q : Q (.int (i * j)) H) : i3mulW (.int i) (.int j) H Q := ⟨c, q⟩
theorem g_divW (c : CDivW i j) (q : Q (.int (i / j)) H) : i3divW (.int i) (.int j) H Q := ⟨c, q⟩
theorem py_ints : ∀ ns : List Int, mapO (pyN 4) (ns.map D.int) = some (ns.map PyData.int)
  | [] => rfl
  | n :: ns => by
    have e : pyN 4 (D.int n) = some (PyData.int n) := rfl
    simp only [List.map_cons, mapO, e, py_ints ns]
theorem py_tupI (H : Hp3) (ns : List Int) : pyH H (.tup (ns.map D.int)) = some (.tuple (ns.map PyData.int)) := by
  have e : pyH H (.tup (ns.map D.int)) = (mapO (pyN 4) (ns.map D.int)).map .tuple := rfl
  rw [e, py_ints]; rfl
theorem eqvAll_ints : ∀ ms ns : List Int, PyData.eqvAll (ms.map PyData.int) (ns.map PyData.int) = decide (ms = ns)
  | [], [] => by simp [PyData.eqvAll]
  | [], _ :: _ => by simp [PyData.eqvAll]
  | _ :: _, [] => by simp [PyData.eqvAll]
  | m :: ms, n :: ns => by
    have e : PyData.eqv (.int m) (.int n) = decide (m = n) := by simp only [PyData.eqv]; rfl
    simp only [List.map_cons, PyData.eqvAll, eqvAll_ints ms ns, e, List.cons.injEq, Bool.decide_and]
theorem g_eqTL {ms ns : List Int} (q : Q (.bl (decide (ms = ns))) H) : r3eq (.tup (ms.map D.int)) (.tup (ns.map D.int)) H Q := by
  simp only [r3eq, py_tupI, PyData.eqv, eqvAll_ints]; exact q
theorem g_neTL {ms ns : List Int} (q : Q (.bl (!decide (ms = ns))) H) : r3ne (.tup (ms.map D.int)) (.tup (ns.map D.int)) H Q := by
  simp only [r3ne, py_tupI, PyData.eqv, eqvAll_ints]; exact q
theorem g_eqT3 {a b c a' b' c' : Int} (q : Q (.bl (decide ([a, b, c] = [a', b', c']))) H) : r3eq (.tup [.int a, .int b, .int c]) (.tup [.int a', .int b', .int c']) H Q := g_eqTL (ms := [a, b, c]) (ns := [a', b', c']) q
theorem g_neT3 {a b c a' b' c' : Int} (q : Q (.bl (!decide ([a, b, c] = [a', b', c']))) H) : r3ne (.tup [.int a, .int b, .int c]) (.tup [.int a', .int b', .int c']) H Q := g_neTL (ms := [a, b, c]) (ns := [a', b', c']) q
theorem Cp.rng {g : TG3} {σ0 : St3} {te : TE3} {lo : Int} {n : Nat} (F : Nat → D) (hl : n ≤ 1000)
    (hel : ∀ i : Nat, i < n → ∀ (R : VK3) (H2 : Hp3), Sub3 H H2 → (∀ H6, Sub3 H2 H6 → R (F i) H6) → g (.int (lo + (i : Int))) σ0 H2 fun σ2 H4 => te σ2 H4 R)
    (fin : ∀ p, H p = none → Q (.ref p) (upd3 H p (.lst ((List.range n).map F)))) : Cp g yes3 te σ0 (rng lo n) (fun _ => True) H Q :=
  Cp.map F (fun _ _ => trivial) (by rw [List.length_range]; exact hl) (fun _ a ha => hel a (List.mem_range.mp (List.mem_of_getElem? ha))) fin
end
/-! zip -/
def zipD (ds es : List D) : List D := List.zipWith (fun x y => D.tup [x, y]) ds es
def zpk (x y : D) (H : Hp3) (R : List D → (Hp3 → Prop) → Hp3 → Prop) : Prop := match x, y with
  | .ref a, .ref b => (match H a, H b with
    | some (.lst ds), some (.lst es) => R (zipD ds es) (fun H' => H' a = some (.lst ds) ∧ H' b = some (.lst es)) H
    | _, _ => False)
  | _, _ => False
def izp (ta tb : TE3) : TI3 := fun σ H R => ta σ H fun x H1 => tb σ H1 fun y H2 => zpk x y H2 R
section
variable {σ : St3} {H : Hp3} {a b : Addr} {ds es : List D}
theorem g_izp {ta tb : TE3} {R : List D → (Hp3 → Prop) → Hp3 → Prop} (h : ta σ H fun x H1 => tb σ H1 fun y H2 => zpk x y H2 R) : izp ta tb σ H R := h
/-! list(reversed(..)) of a list -/
def rvk (x : D) (H : Hp3) (Q : VK3) : Prop := match x with
  | .ref a => (match H a with
    | some (.lst ds) => ∀ p, H p = none → Q (.ref p) (upd3 H p (.lst ds.reverse))
    | _ => False)
  | _ => False
def rvl3 (te : TE3) : TE3 := fun σ H Q => te σ H fun x H1 => rvk x H1 Q
theorem g_rvl {te : TE3} {Q : VK3} (h : te σ H fun x H1 => rvk x H1 Q) : rvl3 te σ H Q := h
theorem g_rvk {Q : VK3} (ha : H a = some (.lst ds)) (h : ∀ p, H p = none → Q (.ref p) (upd3 H p (.lst ds.reverse))) : rvk (.ref a) H Q := by simp only [rvk, ha]; exact h
/-! a, b = x, y -/
def pr3 (i j : Nat) (ta tb : TE3) : TS3 := fun D0 σ H => ta σ H fun x H1 => tb σ H1 fun y H2 => D0.nx ((σ.set i (some x)).set j (some y)) H2
theorem g_pr {i j : Nat} {ta tb : TE3} {D0 : Ends3} (h : ta σ H fun x H1 => tb σ H1 fun y H2 => D0.nx ((σ.set i (some x)).set j (some y)) H2) : pr3 i j ta tb D0 σ H := h
/-! the module's dicts -/
def kdk (kvs : List (Str × D)) (x : D) (H : Hp3) (Q : VK3) : Prop := match x with
  | .str z => (match kvs.lookup z with
    | some d => Q d H
    | none => False)
  | _ => False
def kd3 (kvs : List (Str × D)) (te : TE3) : TE3 := fun σ H Q => te σ H fun x H1 => kdk kvs x H1 Q
theorem g_kd {kvs : List (Str × D)} {te : TE3} {Q : VK3} (h : te σ H fun x H1 => kdk kvs x H1 Q) : kd3 kvs te σ H Q := h
theorem g_kdk {kvs : List (Str × D)} {z : Str} {d : D} {Q : VK3} (hl : kvs.lookup z = some d) (h : Q d H) : kdk kvs (.str z) H Q := by simp only [kdk, hl]; exact h
theorem g_ixK {ds : List D} {i : Int} {d : D} {Q : VK3} (h : atI ds i = some d) (q : Q d H) : r3ix (.ktup ds) (.int i) H Q := by simp only [r3ix, h]; exact q
/-! reversed(text) -/
def irk (x : D) (H : Hp3) (R : List D → (Hp3 → Prop) → Hp3 → Prop) : Prop := match x with
  | .str z => z.length ≤ sizeLine ∧ R (lets z).reverse (fun _ => True) H
  | _ => False
def irv (te : TE3) : TI3 := fun σ H R => te σ H fun x H1 => irk x H1 R
theorem g_irv {te : TE3} {R : List D → (Hp3 → Prop) → Hp3 → Prop} (h : te σ H fun x H1 => irk x H1 R) : irv te σ H R := h
def ikd (kvs : List (Str × D)) : TI3 := fun _ H R => R (kvs.map fun p => D.str p.1) (fun _ => True) H
theorem g_ikd {kvs : List (Str × D)} {R : List D → (Hp3 → Prop) → Hp3 → Prop} (h : R (kvs.map fun p => D.str p.1) (fun _ => True) H) : ikd kvs σ H R := h
/-! name op= e -/
def au3 (k : Nat) (r : R3) (te : TE3) : TS3 := fun D0 σ H => match σ[k]? with
  | some (some x) => te σ H fun y H1 => r x y H1 fun z H2 => D0.nx (σ.set k (some z)) H2
  | _ => False
theorem g_au {k : Nat} {r : R3} {te : TE3} {D0 : Ends3} {x : D} (hx : σ[k]? = some (some x)) (h : te σ H fun y H1 => r x y H1 fun z H2 => D0.nx (σ.set k (some z)) H2) : au3 k r te D0 σ H := by
  simp only [au3, hx]; exact h
/-- ints or texts -/
def r3iadd : R3 := fun x y H Q => match x, y with
  | .int i, .int j => Q (.int (i + j)) H
  | .str i, .str j => i.length + j.length ≤ sizeLine ∧ Q (.str (i ++ j)) H
  | _, _ => False
def i3isub : R3 := rI30 fun i j => .int (i - j)
theorem g_iadd {i j : Int} {Q : VK3} (q : Q (.int (i + j)) H) : r3iadd (.int i) (.int j) H Q := q
theorem g_iaddZ {y z : Str} {Q : VK3} (hl : y.length + z.length ≤ sizeLine) (q : Q (.str (y ++ z)) H) : r3iadd (.str y) (.str z) H Q := ⟨hl, q⟩
theorem g_isub {i j : Int} {Q : VK3} (q : Q (.int (i - j)) H) : i3isub (.int i) (.int j) H Q := q
/-- max of two -/
def r3max2 : List D → Hp3 → VK3 → Prop := fun ds H Q => match ds with
  | [.int i, .int j] => Q (.int (if j > i then j else i)) H
  | _ => False
theorem g_max2 {i j : Int} {Q : VK3} (q : Q (.int (if j > i then j else i)) H) : r3max2 [.int i, .int j] H Q := q
/-! zip of a list and a text -/
def asc (z : Str) : Prop := z.cps.all (· < 128) = true
def ztk (x y : D) (H : Hp3) (R : List D → (Hp3 → Prop) → Hp3 → Prop) : Prop := match x, y with
  | .ref a, .str z => (match H a with
    | some (.lst ds) => asc z ∧ R (zipD ds (lets z)) (fun H' => H' a = some (.lst ds)) H
    | _ => False)
  | _, _ => False
def tzk (x y : D) (H : Hp3) (R : List D → (Hp3 → Prop) → Hp3 → Prop) : Prop := match x, y with
  | .str z, .ref a => (match H a with
    | some (.lst ds) => asc z ∧ R (zipD (lets z) ds) (fun H' => H' a = some (.lst ds)) H
    | _ => False)
  | _, _ => False
def izt (ta tb : TE3) : TI3 := fun σ H R => ta σ H fun x H1 => tb σ H1 fun y H2 => ztk x y H2 R
def itz (ta tb : TE3) : TI3 := fun σ H R => ta σ H fun x H1 => tb σ H1 fun y H2 => tzk x y H2 R
theorem g_izt {ta tb : TE3} {R : List D → (Hp3 → Prop) → Hp3 → Prop} (h : ta σ H fun x H1 => tb σ H1 fun y H2 => ztk x y H2 R) : izt ta tb σ H R := h
theorem g_itz {ta tb : TE3} {R : List D → (Hp3 → Prop) → Hp3 → Prop} (h : ta σ H fun x H1 => tb σ H1 fun y H2 => tzk x y H2 R) : itz ta tb σ H R := h
theorem g_ztk {z : Str} {R : List D → (Hp3 → Prop) → Hp3 → Prop} (ha : H a = some (.lst ds)) (hz : asc z) (h : R (zipD ds (lets z)) (fun H' => H' a = some (.lst ds)) H) : ztk (.ref a) (.str z) H R := by
  simp only [ztk, ha]; exact ⟨hz, h⟩
/-! text * number -/
end
end L3

namespace L3
open PySem PySem.Spec PyProof.Rows L2
section
variable {X : Cx}
theorem CMulW.ok {i j : Int} (h : CMulW i j) : IntMulOk i j := by
  rcases h with h | ⟨m, n, h1, h2, h3⟩
  · exact h.ok
  · exact IntMulOk.of_le (intBits_le_iff.mpr h1) (intBits_le_iff.mpr h2) h3
theorem Bt.log {j : Int} (h : Bt 8999 j) : j.natAbs.log2 < 9000 := by
  by_cases h0 : j.natAbs = 0
  · rw [h0]; decide +kernel
  · have := (Nat.log2_lt h0).mpr h
    omega
theorem op3_mulW : OpR X (binaryOp .Mult) (lift2 X.K i3mulW) := op3_of (opI fun _ _ _ _ _ _ _ hc q => mul_int q (CMulW.ok hc)) fun _ _ _ => .int _
theorem op3_fdivW : OpR X (binaryOp .FloorDiv) (lift2 X.K i3divW) := op3_of (opI fun i j _ _ _ _ _ hc q => by
  have h1 : (0 : Int) < j := hc.1
  exact floordiv_int (by omega) (by rw [Int.fdiv_eq_ediv_of_nonneg i (by omega)]; exact q) (.inl (PyProof.noPylong_of_log2 (Bt.log hc.2)))) fun _ _ _ => .int _
end
end L3

/-! ### zip of two lists -/
namespace L3
open PySem PySem.Spec PyProof.Rows L2
section
variable {X : Cx} {pins : List (Addr × Obj)} {σ : St} {H : Hp} {s : Shared} {h' : Heap}
/-- untracked records of ours have turned, and a new object is laid -/
theorem turnedNew {t' : Nat} {ch : List Addr} {T : Addr} {o : HO} (I : L2.Inv X pins σ H s) (k : ∀ b u, b ∉ ch → s.heap.get? b = some u → h'.get? b = some u)
    (hf : ∀ b ∈ ch, FpOk X pins H b) (hp : s.heap.objs.size ≤ T) (new : ObjOk X.prog X.w (upd H T o) h' T o) : L2.Inv X pins σ (upd H T o) { s with heap := h', toks := t' } := by
  have hn : H T = none := I.hok.fresh hp
  refine I.step (g' := s.gens) (d' := s.drawn) (ch := ch) (fun b hb => ?_) (fun b u _ _ hc e _ => k b u hc e) (fun b u _ _ hc e _ => ⟨u.slots, k b u hc e⟩)
    (fun b u _ e n => by rw [upd_ne (Nat.ne_of_lt (Nat.lt_of_lt_of_le (Heap.lt_size e) hp))]; exact n) (fun b u hc e => ⟨u, k b u hc e⟩)
    (fun b xs q => by rw [upd_ne (ne_of_none q hn)]; exact q) (fun b u xs q => by rw [upd_ne (ne_of_none q hn)]; exact q) (fun b ps q => ⟨#[], by rw [upd_ne (ne_of_none q hn), q]; simp⟩) (fun m hm => ?_) (fun b u e => ?_) I.bare
  · obtain ⟨f0, f1, f2, f3, f4, f5⟩ := hf b hb
    exact ⟨f3, f1, f4, f5⟩
  · obtain ⟨u, es, ep, hu, r⟩ := hm
    exact ⟨u, es, ep, k _ u (fun z => (hf _ z).2.1 rfl) hu, r⟩
  · by_cases hb : b = T
    · subst hb; rw [upd_same] at e; cases e; exact new
    · rw [upd_ne hb] at e
      refine (I.hok b u e).stay (fun c v hc q => k c v (fun z => ?_) q) (fun c q => by rw [upd_ne (ne_of_none q hn)]; exact q) fun c xs q => by rw [upd_ne (ne_of_none q hn)]; exact q
      have f0 := (hf c z).1
      rcases hc with rfl | hc
      · rw [f0] at e; cases e
      · rw [f0] at hc; cases hc
theorem turnedL {t' : Nat} {ch : List Addr} (I : L2.Inv X pins σ H s) (k : ∀ b u, b ∉ ch → s.heap.get? b = some u → h'.get? b = some u)
    (hf : ∀ b ∈ ch, FpOk X pins H b) : L2.Inv X pins σ H { s with heap := h', toks := t' } := by
  refine I.step (g' := s.gens) (d' := s.drawn) (ch := ch) (fun b hb => ?_) (fun b u _ _ hc e _ => k b u hc e) (fun b u _ _ hc e _ => ⟨u.slots, k b u hc e⟩)
    (fun b u _ e n => n) (fun b u hc e => ⟨u, k b u hc e⟩)
    (fun b xs q => q) (fun b u xs q => q) (fun b ps q => ⟨#[], by rw [q]; simp⟩) (fun m hm => ?_) (fun b u e => ?_) I.bare
  · obtain ⟨f0, f1, f2, f3, f4, f5⟩ := hf b hb
    exact ⟨f3, f1, f4, f5⟩
  · obtain ⟨u, es, ep, hu, r⟩ := hm
    exact ⟨u, es, ep, k _ u (fun z => (hf _ z).2.1 rfl) hu, r⟩
  · refine (I.hok b u e).stay (fun c v hc q => k c v (fun z => ?_) q) (fun c q => q) fun c xs q => q
    have f0 := (hf c z).1
    rcases hc with rfl | hc
    · rw [f0] at e; cases e
    · rw [f0] at hc; cases hc
end
section
variable {X : Cx} {tg : Expr}
theorem boot_zip : bootBuiltins "zip" = some (.type "zip") := by rfl
theorem RepL.zip {K : PySem.W.Frag} {H : Hp} {ds es : List D} {xs ys : List V} {i : Nat} {x y : V} (r : RepL K H ds xs) (r' : RepL K H es ys) (hx : xs[i]? = some x) (hy : ys[i]? = some y) : ∃ d e, (zipD ds es)[i]? = some (.tup [d, e]) ∧ Rep K H d x ∧ Rep K H e y := by
  obtain ⟨d, hd, rd⟩ := r.getV hx
  obtain ⟨e, he, re⟩ := r'.getV hy
  refine ⟨d, e, ?_, rd, re⟩
  unfold zipD
  rw [List.getElem?_zipWith, hd, he]
end
end L3

/-! ### list(reversed(..)) of a list -/
namespace L3
open PySem PySem.Spec PyProof.Rows L2
section
variable {prog : Program} {w : World} {A : Around} {E : Value → Shared → Prop} {s : Shared}
end
theorem Vals.snoc1 : ∀ {xs : List V} {us : List Value} {x : V} {u : Value}, Vals xs us → RelV x u → Vals (xs ++ [x]) (us ++ [u])
  | _, _, _, _, .nil, r => .cons r .nil
  | _, _, _, _, .cons h t, r => .cons h (Vals.snoc1 t r)
theorem Vals.rev : ∀ {xs : List V} {us : List Value}, Vals xs us → Vals xs.reverse us.reverse
  | _, _, .nil => .nil
  | _, _, .cons h t => by rw [List.reverse_cons, List.reverse_cons]; exact Vals.snoc1 (Vals.rev t) h
theorem RepL.rev {K : PySem.W.Frag} {H : Hp} : ∀ {ds : List D} {vs : List V}, RepL K H ds vs → RepL K H ds.reverse vs.reverse
  | _, _, .nil => .nil
  | _, _, .cons h t => by rw [List.reverse_cons, List.reverse_cons]; exact RepL.snoc (RepL.rev t) h
section
variable {X : Cx}
end
end L3

/-! ### the module's own dicts, keyed by texts -/
namespace L3
open PySem PySem.Spec PyProof.Rows L2
/-- a thing of the module's -/
inductive RepK (K : PySem.W.Frag) : D → Value → Prop
  | str (x : Str) (t : Tok) : RepK K (.str x) (.str x t)
  | int (i : Int) (t : Tok) : RepK K (.int i) (.int i t)
  | tupI {a : Addr} {ns : List Int} : KTp K a (ns.map V.int) → RepK K (.ktup (ns.map D.int)) (.ref a)
theorem RepK.rep {K : PySem.W.Frag} {H : Hp} {d : D} {v : Value} (r : RepK K d v) : ∃ y, RelV y v ∧ Rep K H d y := by
  cases r with
  | str x t => exact ⟨.str x, ⟨t, rfl⟩, .str x⟩
  | int i t => exact ⟨.int i, ⟨t, rfl⟩, .int i⟩
  | tupI h => exact ⟨.ref _, rfl, .ktup h (RepL.ints _)⟩
inductive EntR (w : World) (K : PySem.W.Frag) : List DictEntry → List (Str × D) → Prop
  | nil : EntR w K [] []
  | cons {k : Str} {d : D} {t : Tok} {v : Value} {es : List DictEntry} {kvs : List (Str × D)} : RepK K d v → EntR w K es kvs → EntR w K (⟨hashStr w k, .str k t, v⟩ :: es) ((k, d) :: kvs)
structure DC (K : PySem.W.Frag) (w : World) (a : Addr) (kvs : List (Str × D)) : Prop where
  ob : ∃ o es ep, K.lookup a = some o ∧ o.ExactDict ∧ o.data = .dict es ep ∧ EntR w K es.toList kvs
  nd : (kvs.map (·.1)).Nodup
  ns : (a == sysModules) = false
/-- as the library has it -/
theorem EntR.pairs {P : Program} {w : World} {K : PySem.W.Frag} : ∀ {es : List DictEntry} {kvs : List (Str × D)}, EntR w K es kvs → ∃ vs : List (Key × Value), Pairs (mixKind P w) es vs ∧ vs.map (·.1) = kvs.map (fun p => (Sum.inr p.1 : Key)) ∧
    (∀ e ∈ es, ∃ k, (mixKind P w).is k e.key = true ∧ e.hash = (mixKind P w).hash k) ∧ (∀ z d, kvs.lookup z = some d → ∃ v, valueAt vs (.inr z) = some v ∧ RepK K d v) ∧ ∀ z, kvs.lookup z = none → valueAt vs (.inr z) = none
  | _, _, .nil => ⟨[], .nil, rfl, by simp, by simp, fun z _ => rfl⟩
  | _, _, .cons (k := k) (d := d) (t := t) (v := v) r h => by
    obtain ⟨vs, h1, h2, h3, h4, h5⟩ := EntR.pairs (P := P) h
    refine ⟨(.inr k, v) :: vs, .cons (mixKind_str P w k t) rfl h1, by rw [List.map_cons, h2]; rfl, ?_, ?_, ?_⟩
    · intro e he
      rcases List.mem_cons.mp he with rfl | he
      · exact ⟨.inr k, mixKind_str P w k t, rfl⟩
      · exact h3 e he
    · intro z dz hz
      by_cases e : z = k
      · subst e
        rw [List.lookup_cons, beq_self_eq_true] at hz
        cases hz
        exact ⟨v, by unfold valueAt; rw [List.find?_cons_of_pos (by simp)]; rfl, r⟩
      · have hb : (z == k) = false := beq_eq_false_iff_ne.mpr e
        rw [List.lookup_cons, hb] at hz
        obtain ⟨v', q1, q2⟩ := h4 z dz hz
        refine ⟨v', ?_, q2⟩
        unfold valueAt at q1 ⊢
        rw [List.find?_cons_of_neg (by simp; exact fun q => e q.symm)]
        exact q1
    · intro z hz
      have e : z ≠ k := by
        rintro rfl
        rw [List.lookup_cons, beq_self_eq_true] at hz
        cases hz
      have hb : (z == k) = false := beq_eq_false_iff_ne.mpr e
      rw [List.lookup_cons, hb] at hz
      have q1 := h5 z hz
      unfold valueAt at q1 ⊢
      rw [List.find?_cons_of_neg (by simp; exact fun q => e q.symm)]
      exact q1
theorem DC.dict {K : PySem.W.Frag} {P : Program} {w : World} {a : Addr} {kvs : List (Str × D)} {h : Heap} (c : DC K w a kvs) (hk : K.In h) : ∃ vs : List (Key × Value), h.DictOf (mixKind P w) a vs ∧ (∀ z d, kvs.lookup z = some d → ∃ v, valueAt vs (.inr z) = some v ∧ RepK K d v) ∧ ∀ z, kvs.lookup z = none → valueAt vs (.inr z) = none := by
  obtain ⟨o, es, ep, h1, h2, h3, h4⟩ := c.ob
  obtain ⟨vs, p1, p2, p3, p4, p5⟩ := EntR.pairs (P := P) h4
  refine ⟨vs, ⟨o, es, ep, hk a o h1, h2, h3, fun e he => p3 e (by simpa using he), p1, ?_⟩, p4, p5⟩
  rw [p2]
  have := c.nd
  rw [List.nodup_iff_pairwise_ne, List.pairwise_map] at this ⊢
  exact this.imp fun h q => h (Sum.inr.inj q)
section
variable {X : Cx}
/-- D[e] -/
def tKd (K : PySem.W.Frag) (kvs : List (Str × D)) (te : TE) : TE := fun σ H Q => te σ H fun x H1 => ∃ z d, x = .str z ∧ kvs.lookup z = some d ∧ ∀ v y, RelV y v → Rep K H1 d y → Q y H1
theorem pe_kd {x : Str} {a : Addr} {kvs : List (Str × D)} {e : Expr} {te : TE} {p pos : Pos} (hg : Gl X x) (hm : X.mg x = some (.ref a)) (c : DC X.K X.w a kvs) (he : PE X e te) (hs : NoSl e) (hd : (x == ("__debug__" : Str)) = false := by decide) : PE X (.Subscript (.Name x p) e pos) (tKd X.K kvs te) := by
  intro pins s σ H Q I h
  refine subD_of PySem.F.slot_dict_getitem.lookup hs (ld_glob I hg hm (thn (he pins s σ H _ I h) fun iv s2 ⟨y, H2, I2, ry, z, d, ey, hl, q2⟩ => ?_) hd)
  subst ey
  obtain ⟨vs, dd, h1, _⟩ := c.dict (P := X.prog) I2.kIn
  obtain ⟨v, hv, rk⟩ := h1 z d hl
  obtain ⟨y, ryv, rep⟩ := rk.rep (H := H2)
  exact ⟨dd.typeIs, wpAny_getItem_of (kV_is (k := .inr z) ry) dd.mapOf hv ⟨y, H2, I2.tok _, ryv, q2 v y ryv rep⟩⟩
theorem p3_kd {x : Str} {kvs : List (Str × D)} {e : Expr} {te : TE3} {p pos : Pos} (hg : Gl X x) (hm : ∃ a, X.mg x = some (.ref a) ∧ DC X.K X.w a kvs) (he : PE3 X e te) (hs : NoSl e := by exact fun _ _ => rfl) (hd : (x == ("__debug__" : Str)) = false := by decide) :
    PE3 X (.Subscript (.Name x p) e pos) (kd3 kvs te) := by
  obtain ⟨a, hm, c⟩ := hm
  refine pe_imp (pe_kd hg hm c he hs hd) fun _ _ _ h => ?_
  obtain ⟨σ3, H3, Q3, sr, hr, t, k⟩ := h
  refine ⟨σ3, H3, _, sr, hr, t, fun x v H3a Ha tka hra rx qa => ?_⟩
  cases rx with
  | str z =>
    simp only [kdk] at qa
    split at qa
    · rename_i d hl
      exact ⟨z, d, rfl, hl, fun v y _ rep => k _ _ _ _ tka hra rep qa⟩
    · exact qa.elim
  | _ => exact qa.elim
end
section
variable {X : Cx} {elt iter : Expr} {ifs : List Expr} {scope : Scope} {pos px px' py pt spos : Pos} {x x' y : Str} {fv : FV} {wi : TI3} {tc : TT3} {te : TE3} {kk : Nat}
end
end L3

namespace L3
open PySem PySem.Spec PyProof.Rows L2
section
variable {prog : Program} {w : World} {A : Around} {E : Value → Shared → Prop} {s : Shared} {x : Str} {t : Tok} {it : Addr}
end
section
variable {X : Cx} {tg : Expr}
end
end L3

/-! ### the module's dicts, walked -/
namespace L3
open PySem PySem.Spec PyProof.Rows L2
theorem DC.at {K : PySem.W.Frag} {P : Program} {w : World} {a : Addr} {kvs : List (Str × D)} (c : DC K w a kvs) : ∃ (vs : List (Key × Value)) (ep : Nat), (∀ h : Heap, K.In h → h.DictAt (mixKind P w) a vs ep) ∧ vs.map (·.1) = kvs.map (fun p => (Sum.inr p.1 : Key)) := by
  obtain ⟨o, es, ep, h1, h2, h3, h4⟩ := c.ob
  obtain ⟨vs, p1, p2, p3, p4, p5⟩ := EntR.pairs (P := P) h4
  refine ⟨vs, ep, fun h hk => ⟨o, es, hk a o h1, h2, h3, fun e he => p3 e (by simpa using he), p1, ?_⟩, p2⟩
  rw [p2]
  have := c.nd
  rw [List.nodup_iff_pairwise_ne, List.pairwise_map] at this ⊢
  exact this.imp fun h q => h (Sum.inr.inj q)
section
variable {X : Cx} {tg : Expr}
end
end L3

/-! ### name op= e; the script + a list; max of two -/
namespace L3
open PySem PySem.Spec PyProof.Rows L2
section
variable {X : Cx}
theorem op3_iadd : OpR X (inplaceOp .Add) (lift2 X.K r3iadd) := by
  intro pins s σ H x y v u Q I rx ry h
  obtain ⟨dx, dy, H3, Q3, hr, rdx, rdy, t, k⟩ := h
  cases rdx with
  | int i =>
    cases rdy with
    | int j => exact iop_add pins s σ H _ _ v u Q I rx ry ⟨i, j, rfl, rfl, k _ _ _ _ TK.refl hr (.int _) t⟩
    | _ => exact t.elim
  | str i =>
    cases rdy with
    | str j => exact iop_add_str pins s σ H _ _ v u Q I rx ry ⟨i, j, rfl, rfl, t.1, k _ _ _ _ TK.refl hr (.str _) t.2⟩
    | _ => exact t.elim
  | _ => exact t.elim
theorem s3_aug {i : Nat} {x : Str} {e : Expr} {te : TE3} {op : Operator} {r : R3} {pos' pos : Pos} (hN : X.N.Nodup) (ho : OpR X (inplaceOp op) (lift2 X.K r)) (he : PE3 X e te) (hi : X.N[i]? = some x := by rfl) (hx : Loc X.env.scope x := by first | exact Or.inl rfl | exact Or.inr rfl)
    (hf : X.fn x = true ∨ X.env.scope.names.lookup x = some .local := by first | exact .inl rfl | exact .inr rfl | assumption) : PS3 X (.AugAssign (.Name x pos') op e pos) (au3 i r te) :=
  ps_imp (ps_aug (i := i) (ti := lift2 X.K r) hN hi hx he ho hf) fun D0 σ H ⟨σ3, H3, D3, sr, hr, t, k⟩ => by
    simp only [au3] at t
    split at t
    · rename_i d hd
      obtain ⟨v, hv, rv⟩ := sr.get _ _ hd
      refine ⟨v, hv, σ3, H3, _, sr, hr, t, fun y u H3a Ha tka hra ry qa => ⟨d, y, H3a, _, hra, rv.mono tka, ry, qa, fun z w H3b Hb tkb hrb rz qb => ?_⟩⟩
      exact k.nx _ _ _ _ (tka.trans tkb) ((sr.mono (tka.trans tkb)).set i rz) hrb qb
    · exact t.elim
end
end L3

/-! ### zip of a list and a text, of a text and a list -/
namespace L3
open PySem PySem.Spec PyProof.Rows L2
/-- what is drawn from: addresses apart -/
structure ZAp (z TI TO i1 i2 : Addr) (f1 f2 : List Addr) : Prop where
  TIz : TI ≠ z
  TOz : TO ≠ z
  i1z : i1 ≠ z
  i2z : i2 ≠ z
  TITO : TI ≠ TO
  TIi1 : TI ≠ i1
  TIi2 : TI ≠ i2
  TOi1 : TO ≠ i1
  TOi2 : TO ≠ i2
  i12 : i1 ≠ i2
  a1 : z ∉ f1 ∧ TO ∉ f1 ∧ i2 ∉ f1
  a2 : z ∉ f2 ∧ TO ∉ f2 ∧ i1 ∉ f2
section
variable {prog : Program} {w : World} {A : Around} {E : Value → Shared → Prop} {s : Shared}
variable {z TI TO i1 i2 : Addr} {f1 f2 : List Addr} {n1 n2 k : Nat} {P1 P2 : Nat → Value → Prop} {S1 S2 : Nat → Heap → Prop} {a b : Value}
theorem zipD_item {Q : Option Value → Shared → Prop} (D : ZAp z TI TO i1 i2 f1 f2) (D1 : Draws prog w A.in1 i1 f1 n1 P1 S1) (D2 : Draws prog w A.in1 i2 f2 n2 P2 S2) (h1 : k < n1) (h2 : k < n2)
    (hz : IsZip s.heap z TI TO .none) (hTI : IsPair s.heap TI (.ref i1) (.ref i2)) (hTO : IsPair s.heap TO a b) (st1 : S1 k s.heap) (st2 : S2 k s.heap)
    (hQ : ∀ h' tk x y, P1 k x → P2 k y → IsZip h' z TI TO (rawInt s.heap.objs.size) → IsPair h' TO x y → S1 (k + 1) h' → S2 (k + 1) h' → IsPair h' s.heap.objs.size x y →
      (∀ c o, c ≠ z → c ≠ TO → c ≠ i1 → c ≠ i2 → s.heap.get? c = some o → h'.get? c = some o) → Q (some (.ref s.heap.objs.size)) { s with heap := h', toks := tk }) :
    wpAny (model prog w) A (pyNext (.ref z)) Q E s := by
  have hT : s.TypeIs (.ref z) "zip" := ⟨_, hz, rfl⟩
  unfold pyNext
  refine wpAny_bind (wpAny_attempt (wpAny_callSpecial?_slot (name := Str.ofString "__next__") hT F.slot_zip_next (wpAny_call_entry F.slot_zip_next hT F.entry_zip_next ?_ (F.args_zip_next_1 _))))
  show wpAny _ _ (field (.ref z) 2 >>= _) _ _ _
  refine wpAny_bind (wpAny_field hz rfl (x := .bool false) rfl ?_)
  show wpAny _ _ (field (.ref z) 3 >>= _) _ _ _
  refine wpAny_bind (wpAny_field hz rfl (x := .ref TI) rfl ?_)
  refine wpAny_bind (wpAny_seqItems hTI rfl ?_)
  show wpAny _ _ (Builtin.SmallTypes.ownedTupleIsFree (.ref z) >>= _) _ _ _
  refine wpAny_bind ?_
  unfold Builtin.SmallTypes.ownedTupleIsFree
  refine wpAny_bind (wpAny_field hz rfl (x := .none) rfl (wpAny_pure ?_))
  simp only [if_true]
  refine wpAny_bind (wpAny_rule ?_)
  refine wpAny_bind (wpAny_field hz rfl (x := .ref TO) rfl ?_)
  refine wpAny_bind (wpAny_setField_rec hz (by simp) fun h₁ hz₁ hs₁ => ?_)
  replace hz₁ : IsZip h₁ z TI TO .ellipsis := hz₁
  refine wpAny_bind ?_
  simp only [List.zipIdx_cons, List.zipIdx_nil, List.forIn_cons, List.forIn_nil]
  have ne : ∀ {c d : Addr} {f : List Addr}, c ∈ f → d ∉ f → c ≠ d := fun hc hd e => hd (e ▸ hc)
  -- the first one
  refine wpAny_bind (wpAny_bind (wpAny_onRaise ?_))
  show wpAny _ _ (Builtin.SmallTypes.nextOf (.ref i1) >>= _) _ _ _
  have s11 : S1 k h₁ := D1.frame _ _ _ st1 fun c hc o e => (hs₁.2 c (ne hc D.a1.1)).trans e
  have s21 : S2 k h₁ := D2.frame _ _ _ st2 fun c hc o e => (hs₁.2 c (ne hc D.a2.1)).trans e
  refine wpAny_bind (D1.item k { s with heap := h₁ } _ _ h1 s11 fun x h₂ tk₂ hx s12 hs₂ => wpAny_pure ?_)
  have hTO₂ : IsPair h₂ TO a b := (hs₂.2 TO D.TOi1).trans ((hs₁.2 TO D.TOz).trans hTO)
  refine wpAny_bind (wpAny_seqItems (s := { s with heap := h₂, toks := tk₂ }) hTO₂ rfl ?_)
  refine wpAny_bind (wpAny_updateSeq_pair (s := { s with heap := h₂, toks := tk₂ }) hTO₂ fun h₃ hTO₃ hs₃ => ?_)
  replace hTO₃ : IsPair h₃ TO x b := hTO₃
  refine wpAny_bind (wpAny_letGo (wpAny_pure ?_))
  have s13 : S1 (k + 1) h₃ := D1.frame _ _ _ s12 fun c hc o e => (hs₃.2 c (ne hc D.a1.2.1)).trans e
  have s23 : S2 k h₃ := D2.frame _ _ _ s21 fun c hc o e => (hs₃.2 c (ne hc D.a2.2.1)).trans ((hs₂.2 c (ne hc D.a2.2.2)).trans e)
  -- the second one
  refine wpAny_bind (wpAny_bind (wpAny_onRaise ?_))
  show wpAny _ _ (Builtin.SmallTypes.nextOf (.ref i2) >>= _) _ _ _
  refine wpAny_bind (D2.item k { s with heap := h₃, toks := tk₂ } _ _ h2 s23 fun y h₄ tk₄ hy s24 hs₄ => wpAny_pure ?_)
  have hTO₄ : IsPair h₄ TO x b := (hs₄.2 TO D.TOi2).trans hTO₃
  refine wpAny_bind (wpAny_seqItems (s := { s with heap := h₄, toks := tk₄ }) hTO₄ rfl ?_)
  refine wpAny_bind (wpAny_updateSeq_pair (s := { s with heap := h₄, toks := tk₄ }) hTO₄ fun h₅ hTO₅ hs₅ => ?_)
  replace hTO₅ : IsPair h₅ TO x y := hTO₅
  refine wpAny_bind (wpAny_letGo (wpAny_pure (wpAny_pure ?_)))
  have s14 : S1 (k + 1) h₅ := D1.frame _ _ _ s13 fun c hc o e => (hs₅.2 c (ne hc D.a1.2.1)).trans ((hs₄.2 c (ne hc D.a1.2.2)).trans e)
  have s25 : S2 (k + 1) h₅ := D2.frame _ _ _ s24 fun c hc o e => (hs₅.2 c (ne hc D.a2.2.1)).trans e
  refine wpAny_bind (wpAny_seqItems (s := { s with heap := h₅, toks := tk₄ }) hTO₅ rfl ?_)
  refine wpAny_bind (wpAny_newTuple ?_)
  have hsz : h₅.objs.size = s.heap.objs.size := by rw [hs₅.1, hs₄.1, hs₃.1, hs₂.1, hs₁.1]
  have hz₅ : IsZip h₅ z TI TO .ellipsis := (hs₅.2 z D.TOz.symm).trans ((hs₄.2 z D.i2z.symm).trans ((hs₃.2 z D.TOz.symm).trans ((hs₂.2 z D.i1z.symm).trans hz₁)))
  have hk₅ : ∀ c o, c ≠ z → c ≠ TO → c ≠ i1 → c ≠ i2 → s.heap.get? c = some o → h₅.get? c = some o := fun c o c1 c2 c3 c4 e =>
    (hs₅.2 c c2).trans ((hs₄.2 c c4).trans ((hs₃.2 c c2).trans ((hs₂.2 c c3).trans ((hs₁.2 c c1).trans e))))
  have hzlt : z < h₅.objs.size := Heap.lt_size hz₅
  show wpAny _ _ (Builtin.SmallTypes.ownedTupleHandOut (.ref z) (.ref h₅.objs.size) >>= _) _ _ _
  refine wpAny_bind ?_
  unfold Builtin.SmallTypes.ownedTupleHandOut
  have hz₆ : IsZip (h₅.push { cls := .type "tuple", data := .seq #[x, y] }) z TI TO .ellipsis := Heap.get?_push_of_some _ hz₅
  refine wpAny_bind (wpAny_setField_rec (s := { s with heap := h₅.push { cls := .type "tuple", data := .seq #[x, y] }, toks := tk₄ }) hz₆ (by simp) fun h₇ hz₇ hs₇ => ?_)
  replace hz₇ : IsZip h₇ z TI TO (rawInt h₅.objs.size) := hz₇
  refine wpAny_setField_rec (s := { s with heap := h₇, toks := tk₄ }) hz₇ (by simp) fun h₈ hz₈ hs₈ => ?_
  replace hz₈ : IsZip h₈ z TI TO (rawInt h₅.objs.size) := hz₈
  have up : ∀ c o, c ≠ z → h₅.get? c = some o → h₈.get? c = some o := fun c o c1 e => (hs₈.2 c c1).trans ((hs₇.2 c c1).trans (Heap.get?_push_of_some _ e))
  have hT₈ : IsPair h₈ h₅.objs.size x y := (hs₈.2 _ (Nat.ne_of_gt hzlt)).trans ((hs₇.2 _ (Nat.ne_of_gt hzlt)).trans (Heap.get?_push_size _ rfl))
  rw [hsz] at hz₈ hT₈
  refine wpAny_pure ⟨_, rfl, wpAny_pure ?_⟩
  show Q (some (.ref h₅.objs.size)) _
  rw [hsz]
  exact hQ h₈ tk₄ x y hx hy hz₈ (up _ _ D.TOz hTO₅) (D1.frame _ _ _ s14 fun c hc o e => up c o (ne hc D.a1.1) e) (D2.frame _ _ _ s25 fun c hc o e => up c o (ne hc D.a2.1) e) hT₈ fun c o c1 c2 c3 c4 e => up c o c1 (hk₅ c o c1 c2 c3 c4 e)
/-- an iterator at its end -/
def Endd (prog : Program) (w : World) (A : Around) (it : Addr) (S : Heap → Prop) : Prop := ∀ (s : Shared) (Q : Value → Shared → Prop) (E : Value → Shared → Prop), S s.heap →
  (∀ h' e, Heap.ExtBut it s.heap h' → (∃ o, h'.get? e = some o ∧ o.cls = .type "StopIteration") → E (.ref e) { s with heap := h' }) → wpAny (model prog w) A (Builtin.SmallTypes.nextOf (.ref it)) Q E s
theorem zipD_end {Q : Option Value → Shared → Prop} (D : ZAp z TI TO i1 i2 f1 f2) (fr1 : ∀ h h' : Heap, S1 k h → (∀ b ∈ f1, ∀ o, h.get? b = some o → h'.get? b = some o) → S1 k h') (fr2 : ∀ h h' : Heap, S2 k h → (∀ b ∈ f2, ∀ o, h.get? b = some o → h'.get? b = some o) → S2 k h')
    (hend : Endd prog w A.in1 i1 (S1 k) ∨ ((k < n1 ∧ Draws prog w A.in1 i1 f1 n1 P1 S1) ∧ Endd prog w A.in1 i2 (S2 k)))
    (hz : IsZip s.heap z TI TO .none) (hTI : IsPair s.heap TI (.ref i1) (.ref i2)) (hTO : IsPair s.heap TO a b) (st1 : S1 k s.heap) (st2 : S2 k s.heap)
    (hQ : ∀ h' tk, (∀ c o, c ≠ z → c ≠ TO → c ≠ i1 → c ≠ i2 → s.heap.get? c = some o → h'.get? c = some o) → Q none { s with heap := h', toks := tk }) :
    wpAny (model prog w) A (pyNext (.ref z)) Q E s := by
  have hT : s.TypeIs (.ref z) "zip" := ⟨_, hz, rfl⟩
  unfold pyNext
  refine wpAny_bind (wpAny_attempt (wpAny_callSpecial?_slot (name := Str.ofString "__next__") hT F.slot_zip_next (wpAny_call_entry F.slot_zip_next hT F.entry_zip_next ?_ (F.args_zip_next_1 _))))
  have fin : ∀ h' e tk, (∀ c o, c ≠ z → c ≠ TO → c ≠ i1 → c ≠ i2 → s.heap.get? c = some o → h'.get? c = some o) → (∃ o, h'.get? e = some o ∧ o.cls = .type "StopIteration") →
      wpAny (model prog w) A (do let r ← isInstance (.ref e) (Value.type "StopIteration"); if r = true then pure none else throw (.ref e)) Q E { s with heap := h', toks := tk } := by
    rintro h' e tk hk ⟨o, ho, hc⟩
    refine wpAny_bind (wpAny_isInstance (T := "StopIteration") (b := true) ⟨o, ho, hc⟩ isSubtype_stop ?_)
    exact wpAny_pure (hQ h' tk hk)
  show wpAny _ _ (field (.ref z) 2 >>= _) _ _ _
  refine wpAny_bind (wpAny_field hz rfl (x := .bool false) rfl ?_)
  show wpAny _ _ (field (.ref z) 3 >>= _) _ _ _
  refine wpAny_bind (wpAny_field hz rfl (x := .ref TI) rfl ?_)
  refine wpAny_bind (wpAny_seqItems hTI rfl ?_)
  show wpAny _ _ (Builtin.SmallTypes.ownedTupleIsFree (.ref z) >>= _) _ _ _
  refine wpAny_bind ?_
  unfold Builtin.SmallTypes.ownedTupleIsFree
  refine wpAny_bind (wpAny_field hz rfl (x := .none) rfl (wpAny_pure ?_))
  simp only [if_true]
  refine wpAny_bind (wpAny_rule ?_)
  refine wpAny_bind (wpAny_field hz rfl (x := .ref TO) rfl ?_)
  refine wpAny_bind (wpAny_setField_rec hz (by simp) fun h₁ hz₁ hs₁ => ?_)
  replace hz₁ : IsZip h₁ z TI TO .ellipsis := hz₁
  refine wpAny_bind ?_
  simp only [List.zipIdx_cons, List.zipIdx_nil, List.forIn_cons, List.forIn_nil]
  have ne : ∀ {c d : Addr} {f : List Addr}, c ∈ f → d ∉ f → c ≠ d := fun hc hd e => hd (e ▸ hc)
  refine wpAny_bind (wpAny_bind (wpAny_onRaise ?_))
  show wpAny _ _ (Builtin.SmallTypes.nextOf (.ref i1) >>= _) _ _ _
  have s11 : S1 k h₁ := fr1 _ _ st1 fun c hc o e => (hs₁.2 c (ne hc D.a1.1)).trans e
  have s21 : S2 k h₁ := fr2 _ _ st2 fun c hc o e => (hs₁.2 c (ne hc D.a2.1)).trans e
  rcases hend with hend | ⟨⟨hk1, D1⟩, hend⟩
  · refine wpAny_bind (hend { s with heap := h₁ } _ _ s11 fun h₂ e hs₂ he => ?_)
    obtain ⟨oe, hoe, hce⟩ := he
    have hz₂ : IsZip h₂ z TI TO .ellipsis := hs₂ _ _ D.i1z.symm hz₁
    have hez : e ≠ z := fun x => by subst x; rw [hz₂] at hoe; cases hoe; simp at hce
    refine wpAny_setField_rec (s := { s with heap := h₂ }) hz₂ (by simp) fun h₃ _ hs₃ => ?_
    exact fin h₃ e s.toks (fun c o c1 _ c3 _ x => (hs₃.2 c c1).trans (hs₂ c o c3 ((hs₁.2 c c1).trans x))) ⟨oe, (hs₃.2 e hez).trans hoe, hce⟩
  · refine wpAny_bind (D1.item k { s with heap := h₁ } _ _ hk1 s11 fun x h₂ tk₂ hx s12 hs₂ => wpAny_pure ?_)
    have hTO₂ : IsPair h₂ TO a b := (hs₂.2 TO D.TOi1).trans ((hs₁.2 TO D.TOz).trans hTO)
    refine wpAny_bind (wpAny_seqItems (s := { s with heap := h₂, toks := tk₂ }) hTO₂ rfl ?_)
    refine wpAny_bind (wpAny_updateSeq_pair (s := { s with heap := h₂, toks := tk₂ }) hTO₂ fun h₃ hTO₃ hs₃ => ?_)
    refine wpAny_bind (wpAny_letGo (wpAny_pure ?_))
    have s23 : S2 k h₃ := fr2 _ _ s21 fun c hc o e => (hs₃.2 c (ne hc D.a2.2.1)).trans ((hs₂.2 c (ne hc D.a2.2.2)).trans e)
    refine wpAny_bind (wpAny_bind (wpAny_onRaise ?_))
    show wpAny _ _ (Builtin.SmallTypes.nextOf (.ref i2) >>= _) _ _ _
    refine wpAny_bind (hend { s with heap := h₃, toks := tk₂ } _ _ s23 fun h₄ e hs₄ he => ?_)
    obtain ⟨oe, hoe, hce⟩ := he
    have hz₄ : IsZip h₄ z TI TO .ellipsis := hs₄ _ _ D.i2z.symm ((hs₃.2 z D.TOz.symm).trans ((hs₂.2 z D.i1z.symm).trans hz₁))
    have hez : e ≠ z := fun x => by subst x; rw [hz₄] at hoe; cases hoe; simp at hce
    refine wpAny_setField_rec (s := { s with heap := h₄, toks := tk₂ }) hz₄ (by simp) fun h₅ _ hs₅ => ?_
    exact fin h₅ e tk₂ (fun c o c1 c2 c3 c4 x => (hs₅.2 c c1).trans (hs₄ c o c4 ((hs₃.2 c c2).trans ((hs₂.2 c c3).trans ((hs₁.2 c c1).trans x))))) ⟨oe, (hs₅.2 e hez).trans hoe, hce⟩
end
def aIt (x : Str) (t : Tok) : Obj := { cls := .type "str_ascii_iterator", data := .fields #[.str x t, .int 0 0] }
def lIt (l : Addr) : Obj := { cls := .type "list_iterator", data := .fields #[.ref l, .int 0 0] }
abbrev zh2 (h : Heap) (o1 o2 : Obj) : Heap := (h.push o1).push o2
abbrev zh3 (h : Heap) (o1 o2 : Obj) : Heap := (zh2 h o1 o2).push { cls := .type "tuple", data := .seq #[.ref h.objs.size, .ref (h.push o1).objs.size] }
abbrev zh4 (h : Heap) (o1 o2 : Obj) : Heap := (zh3 h o1 o2).push { cls := .type "tuple", data := .seq #[.none, .none] }
abbrev zh5 (h : Heap) (o1 o2 : Obj) : Heap := (zh4 h o1 o2).push { cls := .type "zip", data := .fields #[.none, .bool false, .bool false, .ref (zh2 h o1 o2).objs.size, .ref (zh3 h o1 o2).objs.size] }
set_option maxHeartbeats 4000000 in
theorem meets_zip_lt (l : Addr) (xs : Array Value) (x : Str) (t : Tok) (ha : x.cps.all (· < 128) = true) :
    Meets (Builtin.«zip.__new__» ⟨[.type "zip", .ref l, .str x t], []⟩) (fun _ R s => s.heap.IsList l xs ∧ R (.ok (.ret (.ref (zh4 s.heap (lIt l) (aIt x t)).objs.size))) { s with heap := zh5 s.heap (lIt l) (aIt x t) }) :=
  .of_wp fun prog w A R s h => by
    obtain ⟨hp, g, d, tk, os⟩ := s
    obtain ⟨hl, h⟩ := h
    have hsub := sub_zip
    have hL : Heap.IsList (Shared.heap ⟨hp, g, d, tk, os⟩) l xs := hl
    wp_walk using wpAny_pyIter_list hL, wpAny_pyIter_ascii ha
    exact ⟨_, rfl, h⟩
/-- the new objects, where they lie -/
theorem zh_at (h : Heap) (o1 o2 : Obj) (f1 : o1.isFreed = false) (f2 : o2.isFreed = false) : let n := h.objs.size
    (zh4 h o1 o2).objs.size = n + 4 ∧ IsZip (zh5 h o1 o2) (n + 4) (n + 2) (n + 3) .none ∧ IsPair (zh5 h o1 o2) (n + 2) (.ref n) (.ref (n + 1)) ∧ IsPair (zh5 h o1 o2) (n + 3) .none .none ∧ (zh5 h o1 o2).get? n = some o1 ∧ (zh5 h o1 o2).get? (n + 1) = some o2 ∧ ∀ c o, h.get? c = some o → (zh5 h o1 o2).get? c = some o := by
  intro n
  have z1 : (h.push o1).objs.size = n + 1 := Heap.size_push ..
  have z2 : (zh2 h o1 o2).objs.size = n + 2 := by rw [Heap.size_push, z1]
  have z3 : (zh3 h o1 o2).objs.size = n + 3 := by rw [Heap.size_push, z2]
  have z4 : (zh4 h o1 o2).objs.size = n + 4 := by rw [Heap.size_push, z3]
  have g5 : (zh5 h o1 o2).get? (zh4 h o1 o2).objs.size = some _ := Heap.get?_push_size _ rfl
  have g4 : (zh5 h o1 o2).get? (zh3 h o1 o2).objs.size = some _ := Heap.get?_push_of_some _ (Heap.get?_push_size _ rfl)
  have g3 : (zh5 h o1 o2).get? (zh2 h o1 o2).objs.size = some _ := Heap.get?_push_of_some _ (Heap.get?_push_of_some _ (Heap.get?_push_size _ rfl))
  have g2 : (zh5 h o1 o2).get? (h.push o1).objs.size = some o2 := Heap.get?_push_of_some _ (Heap.get?_push_of_some _ (Heap.get?_push_of_some _ (Heap.get?_push_size _ f2)))
  have g1 : (zh5 h o1 o2).get? h.objs.size = some o1 := Heap.get?_push_of_some _ (Heap.get?_push_of_some _ (Heap.get?_push_of_some _ (Heap.get?_push_of_some _ (Heap.get?_push_size _ f1))))
  rw [z2, z3, z4] at g5
  rw [z1, z2] at g3
  rw [z3] at g4
  rw [z1] at g2
  exact ⟨z4, g5, g3, g4, g1, g2, fun c o x => Heap.get?_push_of_some _ (Heap.get?_push_of_some _ (Heap.get?_push_of_some _ (Heap.get?_push_of_some _ (Heap.get?_push_of_some _ x))))⟩
end L3

namespace L3
open PySem PySem.Spec PyProof.Rows L2
theorem ltn {l n : Nat} (h : l < n) : n + 4 ≠ l ∧ n + 3 ≠ l ∧ n + 1 ≠ l ∧ n ≠ l := by omega
theorem nm1 {x a : Nat} (h : x ≠ a) : x ∉ [a] := by simp [h]
theorem nm2 {x a b : Nat} (h : x ≠ a) (g : x ≠ b) : x ∉ [a, b] := by simp [h, g]

/-- pairs of the list at a and the text x -/
def Itz_lt (K : PySem.W.Frag) (a : Addr) (x : Str) : It :=
  ⟨fun i H => ∃ xs v c, SqL K H a xs ∧ xs[i]? = some v ∧ x.cps[i]? = some c,
   fun i H y H' => ∃ T v c, y = .ref T ∧ H T = none ∧ H' = upd H T (.tup [v, .str ⟨#[c]⟩]) ∧ x.cps[i]? = some c ∧ ∀ xs, SqL K H a xs → xs[i]? = some v,
   fun i H => ∃ xs, SqL K H a xs ∧ (xs.length ≤ i ∨ x.cps.size ≤ i)⟩
theorem turn_zip_lt {P : Program} {w : World} {K : PySem.W.Frag} {elts : List Expr} {kt : Nat} {pt : Pos} {x : Str} {t : Tok} (z TI TO i1 i2 a : Addr) (D : ZAp z TI TO i1 i2 [i1, a] [i2]) (hai : a ≠ i1) :
    Turn P w K (.Tuple elts kt pt) (Itz_lt K a x) [z, TI, TO, i1, i2] z (fun i h => IsZip h z TI TO .none ∧ IsPair h TI (.ref i1) (.ref i2) ∧ (∃ u v, IsPair h TO u v) ∧ h.IsListIter i1 a i ∧ i ≤ x.cps.size ∧ h.IsStrIter i2 "str_ascii_iterator" x t i) where
  mem := by simp
  obj := by
    rintro i h ⟨h1, h2, ⟨u, v, h3⟩, ⟨o4, h4, c4, d4⟩, _, ⟨o5, h5, c5, d5⟩⟩ c hc
    simp only [List.mem_cons, List.not_mem_nil, or_false] at hc
    rcases hc with rfl | rfl | rfl | rfl | rfl
    · exact ⟨_, h1, fun v z => nomatch z⟩
    · exact ⟨_, h2, fun v z => nomatch z⟩
    · exact ⟨_, h3, fun v z => nomatch z⟩
    · first
      | exact ⟨_, h4, fun v z => by rw [d4] at z; cases z⟩
      | exact ⟨_, h5, fun v z => by rw [d5] at z; cases z⟩
    · first
      | exact ⟨_, h4, fun v z => by rw [d4] at z; cases z⟩
      | exact ⟨_, h5, fun v z => by rw [d5] at z; cases z⟩
  keep := by
    rintro i h h' ⟨h1, h2, ⟨u, v, h3⟩, h4, hi, ⟨o5, h5, r5⟩⟩ k
    exact ⟨k z (by simp) _ h1, k TI (by simp) _ h2, ⟨u, v, k TO (by simp) _ h3⟩, h4.at fun o e => k i1 (by simp) o e, hi, o5, k i2 (by simp) o5 h5, r5⟩
  item := by
    intro X hP hw hK hc i pins s σ H E I hf st hg
    subst hP hw hK
    obtain ⟨xs, v, c, hq, hxv, hcx⟩ := hg
    obtain ⟨h1, h2, ⟨u0, v0, h3⟩, h4, _, h5⟩ := st
    obtain ⟨its, rv, pl, hz⟩ := I.list hq
    obtain ⟨u, hu, ru⟩ := rv.get hxv
    have hh := I.ok.hd hc
    have hlv : i < its.length := (List.getElem?_eq_some_iff.mp hu).1
    have hct : i < x.cps.size := (Array.getElem?_eq_some_iff.mp hcx).1
    have hT : H s.heap.objs.size = none := I.hok.fresh (Nat.le_refl _)
    refine zipD_item (k := i) (f1 := [i1, a]) (f2 := [i2]) (S1 := fun i h => h.IsListIter i1 a i ∧ h.IsList a its.toArray) (S2 := fun i h => h.IsStrIter i2 "str_ascii_iterator" x t i) D (Draws.list (prog := X.prog) (w := X.w) (A := X.A.in1) hh i1 a hai its.toArray) (Draws.strAscii (prog := X.prog) (w := X.w) (A := X.A.in1) hh i2 x t) (by simp; omega) hct h1 h2 h3 ⟨h4, pl.isList⟩ h5 fun h' tk y1 y2 hy1 hy2 a1 a2 sa sb a5 a7 => ?_
    refine ⟨_, rfl, ?_⟩
    refine wpAny_letOwnedTupleGo_zip (s := { s with heap := h', toks := tk }) a1 fun h'' b1 b2 => ?_
    have lt : ∀ {c o}, s.heap.get? c = some o → s.heap.objs.size ≠ c := fun e => Nat.ne_of_gt (Heap.lt_size e)
    obtain ⟨c', u', hc', rfl⟩ := hy2
    have ec : c' = c := Option.some.inj (hc'.symm.trans hcx)
    subst ec
    have eu : y1 = u := by
      have q := hy1
      simp only [List.getElem?_toArray] at q
      exact Option.some.inj (q.symm.trans hu)
    subst eu
    have new : h''.get? s.heap.objs.size = some { cls := .type "tuple", data := .seq #[y1, .str ⟨#[c']⟩ u'] } := (b2.2 _ (lt h1)).trans a5
    have I1 : L2.Inv X pins σ (upd H s.heap.objs.size (.tup [v, .str ⟨#[c']⟩])) { s with heap := h'', toks := tk } := by
      refine turnedNew (ch := [z, TI, TO, i1, i2]) I (fun c o hcn e => ?_) hf (Nat.le_refl _) ⟨?_, [y1, .str ⟨#[c']⟩ u'], .cons ru (.cons ⟨_, rfl⟩ .nil), ⟨_, new, rfl, _, rfl⟩⟩
      · have n1 : c ≠ z := fun w => hcn (by simp [w])
        exact (b2.2 c n1).trans (a7 c o n1 (fun w => hcn (by simp [w])) (fun w => hcn (by simp [w])) (fun w => hcn (by simp [w])) e)
      · show 2 ≤ sizeLine; decide
    refine ⟨.ref s.heap.objs.size, _, I1, rfl, ⟨_, v, c', rfl, hT, rfl, hcx, fun xs' q1 => by rw [I.list_inj q1 hq]; exact hxv⟩, ⟨b1, ?_, ⟨_, _, (b2.2 TO D.TOz).trans a2⟩, ?_, hct, ?_⟩, fun d hdm => ?_⟩
    · exact (b2.2 TI D.TIz).trans (a7 TI _ D.TIz D.TITO D.TIi1 D.TIi2 h2)
    · exact (sa).1.at fun o e => (b2.2 i1 D.i1z).trans e
    · obtain ⟨o, e, r⟩ := sb
      exact ⟨o, (b2.2 i2 D.i2z).trans e, r⟩
    · have hcn : H d = none := (hf d hdm).1
      have : d ≠ s.heap.objs.size := by
        obtain ⟨o, e, _⟩ : ∃ o, s.heap.get? d = some o ∧ True := by
          simp only [List.mem_cons, List.not_mem_nil, or_false] at hdm
          obtain ⟨o4, e4, _⟩ := h4
          obtain ⟨o5, e5, _⟩ := h5
          rcases hdm with rfl | rfl | rfl | rfl | rfl
          · exact ⟨_, h1, trivial⟩
          · exact ⟨_, h2, trivial⟩
          · exact ⟨_, h3, trivial⟩
          · first | exact ⟨_, e4, trivial⟩ | exact ⟨_, e5, trivial⟩
          · first | exact ⟨_, e4, trivial⟩ | exact ⟨_, e5, trivial⟩
        exact (lt e).symm
      rw [upd_ne this]; exact hcn
  done := by
    intro X hP hw hK hc i pins s σ H E I hf st hg
    subst hP hw hK
    obtain ⟨xs, hq, hx⟩ := hg
    obtain ⟨h1, h2, ⟨u0, v0, h3⟩, h4, hi, h5⟩ := st
    obtain ⟨its, rv, pl, hz⟩ := I.list hq
    have hl := rv.length
    have hh := I.ok.hd hc
    have DL := Draws.list (prog := X.prog) (w := X.w) (A := X.A.in1) hh i1 a hai its.toArray
    have DT := Draws.strAscii (prog := X.prog) (w := X.w) (A := X.A.in1) hh i2 x t
    have endL : its.length ≤ i → Endd X.prog X.w X.A.in1 i1 ((fun i h => h.IsListIter i1 a i ∧ h.IsList a its.toArray) i) := fun hle s' Q E' st' hE => wpAny_nextOf_list_end hh st'.1 st'.2 (by simp; omega) hE
    have endT : x.cps.size ≤ i → Endd X.prog X.w X.A.in1 i2 ((fun i h => h.IsStrIter i2 "str_ascii_iterator" x t i) i) := fun hle s' Q E' st' hE => by
      have e : i = x.cps.size := Nat.le_antisymm hi hle
      subst e
      exact DT.done s' Q E' st' hE
    refine zipD_end (k := i) (P1 := fun i v => its.toArray[i]? = some v) (f1 := [i1, a]) (f2 := [i2]) (n1 := its.toArray.size) (S1 := fun i h => h.IsListIter i1 a i ∧ h.IsList a its.toArray) (S2 := fun i h => h.IsStrIter i2 "str_ascii_iterator" x t i) D (fun _ _ q k => DL.frame i _ _ q k) (fun _ _ q k => DT.frame i _ _ q k) ?_ h1 h2 h3 ⟨h4, pl.isList⟩ h5 fun h' tk k => ⟨rfl, ?_⟩
    · by_cases hle : its.length ≤ i
      · exact .inl (endL hle)
      · exact .inr ⟨⟨by simp; omega, DL⟩, endT (by omega)⟩
    · exact turnedL (t' := tk) (ch := [z, TI, TO, i1, i2]) I (fun c o hcn e => k c o (fun w => hcn (by simp [w])) (fun w => hcn (by simp [w])) (fun w => hcn (by simp [w])) (fun w => hcn (by simp [w])) e) hf
  self := fun A i s Q E st h => wpAny_pyIter_zip st.1 h

section
variable {X : Cx} {tg : Expr}
theorem call_zip_lt {prog : Program} {w : World} {A : Around} {E : Value → Shared → Prop} {s : Shared} {l : Addr} {xs : Array Value} {x : Str} {t : Tok} {Q : Value → Shared → Prop} (ha : x.cps.all (· < 128) = true) (hl : s.heap.IsList l xs)
    (h : Q (.ref (s.heap.objs.size + 4)) { s with heap := zh5 s.heap (lIt l) (aIt x t) }) : wpAny (model prog w) A (call (.type "zip") [.ref l, .str x t]) Q E s := by
  refine callType_new F.called_zip (by decide) (F.typeCall_zip_2 _ _) (F.newCall_zip_2 _ _) (fun obj => F.args_object_init_3 obj _ _) F.entry_zip_new (meets_zip_lt l xs x t ha) ⟨hl, ?_⟩
  obtain ⟨z4, g5, _⟩ := zh_at s.heap (lIt l) (aIt x t) rfl rfl
  show _ ∧ _
  rw [z4]
  exact ⟨⟨_, g5, rfl⟩, h⟩
def jZip_lt (K : PySem.W.Frag) (ta : TA) : TI := fun σ H R => ta σ H fun vs H1 => ∃ l x, vs = [.ref l, .str x] ∧ x.cps.all (· < 128) = true ∧ (∃ xs, SqL K H1 l xs) ∧ R (Itz_lt K l x) H1
theorem pj_zip_lt {a b : Expr} {ta : TA} {p pos pt : Pos} {elts : List Expr} {kt : Nat} (hg : Gl X "zip") (hm : X.mg "zip" = none) (ha : PA X [a, b] ta) (hs : starEach [a, b] X.env = [(false, eval a X.env), (false, eval b X.env)] := by rfl) (hs2 : starEach [b] X.env = [(false, eval b X.env)] := by rfl) :
    PI X (.Tuple elts kt pt) (.Call (.Name "zip" p) [a, b] [] pos) (jZip_lt X.K ta) := by
  intro pins s σ H R I h
  refine Call_ (ld_blt I hg hm boot_zip (PyProof.Rows.callWith_type1 (thn (ha pos pins s σ H _ I h) fun us s1 ⟨vs, H1, I1, r1, l, x, e, hx, ⟨xs, hq⟩, q⟩ => ?_) (by rw [hs, hs2]) (by rw [hs2]; rfl)))
  subst e
  obtain ⟨u, u', rfl, e1, e2⟩ := vals2 r1
  cases e1
  obtain ⟨t, rfl⟩ := e2
  obtain ⟨its, rv, pl, hz⟩ := I1.list hq
  have a1 : l < s1.heap.objs.size := by obtain ⟨_, e, _⟩ := pl.isList; exact Heap.lt_size e
  refine call_zip_lt hx pl.isList ?_
  obtain ⟨z4, g5, g3, g4, g1, g2, hk⟩ := zh_at s1.heap (lIt l) (aIt x t) rfl rfl
  generalize hn : s1.heap.objs.size = n at *
  refine wpAny_pyIter_zip (s := { s1 with heap := zh5 s1.heap (lIt l) (aIt x t) }) g5 ?_
  have I2 : L2.Inv X pins σ H1 { s1 with heap := zh5 s1.heap (lIt l) (aIt x t), toks := s1.toks } := I1.kept (t' := s1.toks) hk
  have D : ZAp (n + 4) (n + 2) (n + 3) n (n + 1) [n, l] [n + 1] := by
    exact ⟨(show (n + 2 : Nat) ≠ n + 4 from by omega), (show (n + 3 : Nat) ≠ n + 4 from by omega), (show (n : Nat) ≠ n + 4 from by omega), (show (n + 1 : Nat) ≠ n + 4 from by omega), (show (n + 2 : Nat) ≠ n + 3 from by omega), (show (n + 2 : Nat) ≠ n from by omega), (show (n + 2 : Nat) ≠ n + 1 from by omega), (show (n + 3 : Nat) ≠ n from by omega), (show (n + 3 : Nat) ≠ n + 1 from by omega), (show (n : Nat) ≠ n + 1 from by omega), ⟨nm2 (show (n + 4 : Nat) ≠ n from by omega) (ltn a1).1, nm2 (show (n + 3 : Nat) ≠ n from by omega) (ltn a1).2.1, nm2 (show (n + 1 : Nat) ≠ n from by omega) (ltn a1).2.2.1⟩, ⟨nm1 (show (n + 4 : Nat) ≠ n + 1 from by omega), nm1 (show (n + 3 : Nat) ≠ n + 1 from by omega), nm1 (show (n : Nat) ≠ n + 1 from by omega)⟩⟩
  refine ⟨_, _, _, _, H1, rfl, I2, turn_zip_lt (t := t) _ _ _ _ _ l D (Ne.symm (ltn a1).2.2.2), ⟨g5, g3, ⟨_, _, g4⟩, ⟨_, g1, rfl, rfl⟩, Nat.zero_le _, ⟨_, g2, rfl, rfl⟩⟩, fun b hb => ?_, q⟩
  simp only [List.mem_cons, List.not_mem_nil, or_false] at hb
  have hge : s1.heap.objs.size ≤ b := by rw [hn]; rcases hb with rfl | rfl | rfl | rfl | rfl <;> omega
  exact I1.fpOk (b := b) (H' := H1) hge (I1.hok.fresh hge)
theorem itOk_zip_lt {K : PySem.W.Frag} {H : Hp} {a : Addr} {ds : List D} {z : Str} : ItOk K H (zipD ds (lets z)) (fun H' => H' a = some (.lst ds)) (Itz_lt K a z) := fun H3 H' _ hr hk => by
  obtain ⟨vs, ga, ra⟩ := hr a _ hk
  have hl : (zipD ds (lets z)).length = min ds.length z.cps.size := by
    have hz : (lets z).length = z.cps.size := by unfold lets; rw [List.length_map, Array.length_toList]
    unfold zipD; rw [List.length_zipWith, hz]
  refine ⟨fun i hi => ?_, ?_⟩
  · rw [hl] at hi
    have h1 : i < vs.length := by rw [← ra.length]; omega
    have h2 : i < z.cps.size := by omega
    refine ⟨⟨vs, vs[i], z.cps[i], SqL.of ga, by simp, by simp⟩, fun v H'' y => ?_⟩
    obtain ⟨T, x, c, rfl, hT, rfl, hc, hx⟩ := y
    obtain ⟨d, hd, rd⟩ := ra.getV (hx vs (SqL.of ga))
    have hc2 : (lets z)[i]? = some (.str ⟨#[c]⟩) := by unfold lets; rw [List.getElem?_map, Array.getElem?_toList, hc]; rfl
    refine ⟨TK.fresh hT, hr.tup hT, .tup [d, .str ⟨#[c]⟩], ?_, .tup upd_same (.cons (rd.mono (TK.fresh hT)) (.cons (.str _) .nil))⟩
    unfold zipD
    rw [List.getElem?_zipWith, hd, hc2]
  · rw [hl]
    refine ⟨vs, SqL.of ga, ?_⟩
    rw [← ra.length]
    omega
end

section
variable {X : Cx} {tg : Expr}
end

section
variable {X : Cx}
theorem i3_zip_lt {a b : Expr} {ta tb : TE3} {p pos pt : Pos} {elts : List Expr} {kt : Nat} (hm : X.mg "zip" = none) (ha : PE3 X a ta) (hb : PE3 X b tb) (hg : Gl X "zip" := by rfl) (hs : starEach [a, b] X.env = [(false, eval a X.env), (false, eval b X.env)] := by rfl)
    (hs1 : starEach [a, b] X.env = (false, eval a X.env) :: starEach [b] X.env := by rfl) (hs2 : starEach [b] X.env = (false, eval b X.env) :: starEach [] X.env := by rfl) (hs3 : starEach [b] X.env = [(false, eval b X.env)] := by rfl) : PI3 X (.Tuple elts kt pt) (.Call (.Name "zip" p) [a, b] [] pos) (izt ta tb) :=
  pi_imp (pj_zip_lt hg hm (a3_cons ha (a3_cons hb a3_nil hs2) hs1) hs hs3) fun _ _ _ ⟨σ3, H3, R3, sr, hr, t, k⟩ => by
    refine ⟨σ3, H3, fun ds H1 => (match ds with | [x, y] => ztk x y H1 R3 | _ => False), sr, hr, t, fun ds vs H3a Ha tka hra rs qa => ?_⟩
    cases rs with
    | nil => exact qa.elim
    | cons r1 r2 =>
      cases r2 with
      | nil => exact qa.elim
      | cons r2 r3 =>
        cases r3 with
        | cons _ _ => exact qa.elim
        | nil =>
          cases r1 with
          | ref x =>
            cases r2 with
            | str z =>
              simp only [ztk] at qa
              split at qa
              · rename_i ds hx
                obtain ⟨vs, ga, ra⟩ := hra x _ hx
                exact ⟨x, z, rfl, qa.1, ⟨vs, SqL.of ga⟩, k _ _ _ _ _ tka hra itOk_zip_lt qa.2⟩
              · exact qa.elim
            | _ => exact qa.elim
          | _ => exact qa.elim
end

section
variable {X : Cx}
end
end L3

/-! ### text * number -/
namespace L3
open PySem PySem.Spec PyProof.Rows L2
section
variable {X : Cx}
end
end L3

namespace L3
open PySem PySem.Spec PyProof.Rows L2
/-! ### pure parts: instances -/
def putF3 (f : Str) (y : D) : List (Str × D) → List (Str × D)
  | [] => [(f, y)]
  | (g, x) :: r => if g = f then (g, y) :: r else (g, x) :: putF3 f y r
def r3fld (cs : List Str) (f : Str) (x : D) (H : Hp3) (Q : VK3) : Prop := match x with
  | .ref a => (match H a with
    | some (.ins c fs) => c ∈ cs ∧ (match fs.lookup f with
      | some d => Q d H
      | none => False)
    | _ => False)
  | _ => False
def fd3 (cs : List Str) (f : Str) (ta : TE3) : TE3 := fun σ H Q => ta σ H fun x H1 => r3fld cs f x H1 Q
def r3sf (cs : List Str) (f : Str) (y x : D) (H : Hp3) (R : Hp3 → Prop) : Prop := match x with
  | .ref a => (match H a with
    | some (.ins c fs) => (c ∈ cs ∧ fs.length < 1000) ∧ R (upd3 H a (.ins c (putF3 f y fs)))
    | _ => False)
  | _ => False
def sf3 (cs : List Str) (f : Str) (ta tv : TE3) : TS3 := fun D σ H => tv σ H fun y H1 => ta σ H1 fun x H2 => r3sf cs f y x H2 (D.nx σ)
def r3meth (ms : List (Str × Sp3)) (m : Str) (x : D) (H : Hp3) (R : Sp3 → Prop) : Prop := match x with
  | .ref a => (match H a with
    | some (.ins c fs) => fs.lookup m = none ∧ (match ms.lookup c with
      | some sp => R sp
      | none => False)
    | _ => False)
  | _ => False
def me3 (ms : List (Str × Sp3)) (m : Str) (ta : TE3) (t : TA3) : TE3 := fun σ H Q => ta σ H fun x H1 => r3meth ms m x H1 fun sp => t σ H1 fun ds H2 => sp (x :: ds) H2 Q
def mk3 (c : Str) (sp : Sp3) (t : TA3) : TE3 := fun σ H Q => t σ H fun ds H1 => ∀ x, H1 x = none → sp (.ref x :: ds) (upd3 H1 x (.ins c [])) fun v H2 => v = .non ∧ Q (.ref x) H2
section
variable {H : Hp3} {Q : VK3} {σ : St3} {a : Addr} {c f m : Str} {cs : List Str} {fs : List (Str × D)} {d y : D} {ta tv : TE3} {t : TA3} {sp : Sp3} {ms : List (Str × Sp3)}
theorem g_fd (h : ta σ H fun x H1 => r3fld cs f x H1 Q) : fd3 cs f ta σ H Q := h
theorem g_fld (h : H a = some (.ins c fs)) (hc : c ∈ cs) (hl : fs.lookup f = some d) (q : Q d H) : r3fld cs f (.ref a) H Q := by
  simp only [r3fld, h, hl]; exact ⟨hc, q⟩
theorem g_sfa {E : Ends3} (h : tv σ H fun y H1 => ta σ H1 fun x H2 => r3sf cs f y x H2 (E.nx σ)) : sf3 cs f ta tv E σ H := h
theorem g_sf {R : Hp3 → Prop} (h : H a = some (.ins c fs)) (hc : c ∈ cs) (hl : fs.length < 1000) (q : R (upd3 H a (.ins c (putF3 f y fs)))) : r3sf cs f y (.ref a) H R := by
  simp only [r3sf, h]; exact ⟨⟨hc, hl⟩, q⟩
theorem g_me (h : ta σ H fun x H1 => r3meth ms m x H1 fun sp => t σ H1 fun ds H2 => sp (x :: ds) H2 Q) : me3 ms m ta t σ H Q := h
theorem g_meth {R : Sp3 → Prop} (h : H a = some (.ins c fs)) (hl : fs.lookup m = none) (hs : ms.lookup c = some sp) (q : R sp) : r3meth ms m (.ref a) H R := by
  simp only [r3meth, h, hs]; exact ⟨hl, q⟩
theorem g_mk (h : t σ H fun ds H1 => ∀ x, H1 x = none → sp (.ref x :: ds) (upd3 H1 x (.ins c [])) fun v H2 => v = .non ∧ Q (.ref x) H2) : mk3 c sp t σ H Q := h
end
/-! enumerate(list) -/
def enk (x : D) (H : Hp3) (R : List D → (Hp3 → Prop) → Hp3 → Prop) : Prop := match x with
  | .ref a => (match H a with
    | some (.lst ds) => R (zipD (rng 0 ds.length) ds) (fun H' => H' a = some (.lst ds)) H
    | _ => False)
  | _ => False
def ien (te : TE3) : TI3 := fun σ H R => te σ H fun x H1 => enk x H1 R
theorem g_ien {te : TE3} {σ : St3} {H : Hp3} {R : List D → (Hp3 → Prop) → Hp3 → Prop} (h : te σ H fun x H1 => enk x H1 R) : ien te σ H R := h
theorem g_enk {H : Hp3} {a : Addr} {ds : List D} {R : List D → (Hp3 → Prop) → Hp3 → Prop} (h : H a = some (.lst ds)) (q : R (zipD (rng 0 ds.length) ds) (fun H' => H' a = some (.lst ds)) H) : enk (.ref a) H R := by
  simp only [enk, h]; exact q
/-! int(bool) -/
def r3int : List D → Hp3 → VK3 → Prop := fun ds H Q => match ds with
  | [.bl b] => Q (.int (if b then 1 else 0)) H
  | [.int i] => Q (.int i) H
  | _ => False
theorem g_intB {b : Bool} {H : Hp3} {Q : VK3} (q : Q (.int (if b then 1 else 0)) H) : r3int [.bl b] H Q := q
/-! exceptions, by their class's name -/
abbrev EK3 := Str → Hp3 → Prop
abbrev SpE := List D → Hp3 → VK3 → EK3 → Prop
def cbE (sp : SpE) (t : TA3) : EK3 → TE3 := fun E σ H Q => t σ H fun ds H1 => sp ds H1 Q E
def rz3 (E : EK3) (c : Str) (te : TE3) : TS3 := fun _ σ H => te σ H fun _ H1 => ∃ H2, Sub3 H2 H1 ∧ E c H2
def tr3 (t : EK3 → TE3) (cs : List Str) (th : TS3) : TS3 := fun D σ H => t (fun c H1 => c ∈ cs ∧ th D σ H1) σ H fun _ H1 => D.nx σ H1
section
variable {H : Hp3} {Q : VK3} {σ : St3} {t : TA3} {sp : SpE} {E : EK3} {c : Str} {te : TE3}
theorem g_cbE (h : t σ H fun ds H1 => sp ds H1 Q E) : cbE sp t E σ H Q := h
theorem g_rz {D : Ends3} (h : te σ H fun _ H1 => ∃ H2, Sub3 H2 H1 ∧ E c H2) : rz3 E c te D σ H := h
theorem g_try {D : Ends3} {t : EK3 → TE3} {cs : List Str} {th : TS3} (h : t (fun c H1 => c ∈ cs ∧ th D σ H1) σ H fun _ H1 => D.nx σ H1) : tr3 t cs th D σ H := h
end
/-! isinstance of an exception: by a table of classes; except .. as .. -/
def isxk (tbl : List (Str × Bool)) (x : D) (H : Hp3) (Q : VK3) : Prop := match x with
  | .ref a => (match H a with
    | some (.exc c) => (match tbl.lookup c with
      | some b => Q (.bl b) H
      | none => False)
    | _ => False)
  | _ => False
def isx3 (tbl : List (Str × Bool)) (ta : TE3) : TE3 := fun σ H Q => ta σ H fun x H1 => isxk tbl x H1 Q
def sxE (t : EK3 → TE3) : EK3 → TS3 := fun E D σ H => t E σ H fun _ H1 => D.nx σ H1
def sxS (i : Nat) (t : EK3 → TE3) : EK3 → TS3 := fun E D σ H => t E σ H fun v H1 => D.nx (σ.set i (some v)) H1
def gone (i : Nat) (D : Ends3) : Ends3 := { nx := fun σ' H' => D.nx (σ'.set i none) H', rt := D.rt, bk := fun σ' H' => D.bk (σ'.set i none) H', ct := fun σ' H' => D.ct (σ'.set i none) H' }
def trA3 (t : EK3 → TS3) (cs : List Str) (i : Nat) (th : TS3) : TS3 := fun D σ H => t (fun c H1 => c ∈ cs ∧ ∀ a, H1 a = none → th (gone i D) (σ.set i (some (.ref a))) (upd3 H1 a (.exc c))) D σ H
section
variable {H : Hp3} {Q : VK3} {σ : St3} {a : Addr} {c : Str} {b : Bool} {tbl : List (Str × Bool)} {ta : TE3}
theorem g_isx3 (h : ta σ H fun x H1 => isxk tbl x H1 Q) : isx3 tbl ta σ H Q := h
theorem g_isxk (h : H a = some (.exc c)) (hl : tbl.lookup c = some b) (q : Q (.bl b) H) : isxk tbl (.ref a) H Q := by
  simp only [isxk, h, hl]; exact q
theorem g_trA {D : Ends3} {t : EK3 → TS3} {cs : List Str} {i : Nat} {th : TS3} (h : t (fun c H1 => c ∈ cs ∧ ∀ a, H1 a = none → th (gone i D) (σ.set i (some (.ref a))) (upd3 H1 a (.exc c))) D σ H) : trA3 t cs i th D σ H := h
theorem g_gone {D : Ends3} {i : Nat} (h : D.nx (σ.set i none) H) : (gone i D).nx σ H := h
theorem g_goneR {E : Ends3} {i : Nat} {d : D} (h : E.rt d H) : (gone i E).rt d H := h
theorem g_sxE {D : Ends3} {E : EK3} {t : EK3 → TE3} (h : t E σ H fun _ H1 => D.nx σ H1) : sxE t E D σ H := h
theorem g_sxS {D : Ends3} {E : EK3} {i : Nat} {t : EK3 → TE3} (h : t E σ H fun v H1 => D.nx (σ.set i (some v)) H1) : sxS i t E D σ H := h
end
end L3

namespace L3
open PySem PySem.Spec PyProof.Rows L2
/-! ### instances of the text's classes: fields, methods, making -/
abbrev FsR (K : PySem.W.Frag) (H : Hp) (fs : List (Str × D)) (xs : List (Str × V)) : Prop := Paired (fun (p : Str × D) (q : Str × V) => p.1 = q.1 ∧ Rep K H p.2 q.2) fs xs
section
variable {K : PySem.W.Frag} {H : Hp}
theorem FsR.put {f : Str} {y : D} {v : V} (r : Rep K H y v) : ∀ {fs : List (Str × D)} {xs : List (Str × V)}, FsR K H fs xs → FsR K H (putF3 f y fs) (putF f v xs)
  | _, _, .nil => .cons ⟨rfl, r⟩ .nil
  | (g, d) :: fs, (g', x) :: xs, .cons ⟨e, q⟩ t => by
    have e' : g = g' := e
    subst e'
    unfold putF3 putF
    by_cases h : g = f
    · rw [if_pos h, if_pos h]; exact .cons ⟨rfl, r⟩ t
    · rw [if_neg h, if_neg h]; exact .cons ⟨rfl, q⟩ (FsR.put r t)
theorem FsR.len : ∀ {fs : List (Str × D)} {xs : List (Str × V)}, FsR K H fs xs → fs.length = xs.length
  | _, _, .nil => rfl
  | _ :: _, _ :: _, .cons _ t => by rw [List.length_cons, List.length_cons, FsR.len t]
theorem FsR.look {f : Str} {d : D} : ∀ {fs : List (Str × D)} {xs : List (Str × V)}, FsR K H fs xs → fs.lookup f = some d → ∃ v, xs.lookup f = some v ∧ Rep K H d v
  | _, _, .nil, e => by cases e
  | (g, d') :: fs, (g', x) :: xs, .cons ⟨e, q⟩ t, l => by
    have e' : g = g' := e
    subst e'
    cases hb : f == g with
    | true => simp only [List.lookup, hb] at l ⊢; cases l; exact ⟨x, rfl, q⟩
    | false => simp only [List.lookup, hb] at l ⊢; exact FsR.look t l
theorem FsR.no {f : Str} : ∀ {fs : List (Str × D)} {xs : List (Str × V)}, FsR K H fs xs → fs.lookup f = none → xs.lookup f = none
  | _, _, .nil, _ => rfl
  | (g, d') :: fs, (g', x) :: xs, .cons ⟨e, q⟩ t, l => by
    have e' : g = g' := e
    subst e'
    cases hb : f == g with
    | true => simp only [List.lookup, hb] at l; cases l
    | false => simp only [List.lookup, hb] at l ⊢; exact FsR.no t l
end
/-- the classes cs have no such name: it is a field -/
def FldOk (K : PySem.W.Frag) (cs : List Str) (f : Str) : Prop := ∀ c ∈ cs, ∃ C, PySem.W.nsIn K mainGlobals c = some (some (.ref C)) ∧ Cls K C ∧ NoAttr K C f
theorem FldOk.nil {K : PySem.W.Frag} {f : Str} : FldOk K [] f := fun _ h => absurd h (by simp)
theorem FldOk.cons {K : PySem.W.Frag} {f c : Str} {cs : List Str} {C : Addr} (h1 : PySem.W.nsIn K mainGlobals c = some (some (.ref C))) (h2 : Cls K C) (h3 : NoAttr K C f) (r : FldOk K cs f) : FldOk K (c :: cs) f := fun d h => by
  rcases List.mem_cons.mp h with rfl | h
  · exact ⟨C, h1, h2, h3⟩
  · exact r d h
/-- c.m of the text -/
structure MthOk (P : Program) (w : World) (K : PySem.W.Frag) (mg : Str → Option Value) (base : Heap) (k : Nat) (c m : Str) (ps : List Str) (sp : Sp3) : Prop where
  ex : ∃ C f fd, PySem.W.nsIn K mainGlobals c = some (some (.ref C)) ∧ Cls K C ∧ Meth K C m f ∧ FnOk P w K mg base CX0 k f fd ps (liftF K sp) ∧ Binds K fd ps []
/-- c(..) -/
structure MkOk (P : Program) (w : World) (K : PySem.W.Frag) (mg : Str → Option Value) (base : Heap) (k : Nat) (c : Str) (ps : List Str) (sp : Sp3) : Prop where
  ex : ∃ C f fd, PySem.W.nsIn K mainGlobals c = some (some (.ref C)) ∧ mg c = some (.ref C) ∧ Mk K C f ∧ FnOk P w K mg base CX0 k f fd ps (liftF K sp) ∧ Binds K fd ps []
section
variable {X : Cx} {e o value : Expr} {es : List Expr} {ta tv : TE3} {t : TA3} {cs : List Str} {f m c : Str} {k : Nat} {pos pos' p apos : Pos} {ps : List Str} {sp : Sp3}
/-- every class of the table has the method -/
def MsOk (P : Program) (w : World) (K : PySem.W.Frag) (mg : Str → Option Value) (base : Heap) (k : Nat) (m : Str) (ps : List Str) (ms : List (Str × Sp3)) : Prop := ∀ c sp, ms.lookup c = some sp → MthOk P w K mg base k c m ps sp
theorem MsOk.nil {P : Program} {w : World} {K : PySem.W.Frag} {mg : Str → Option Value} {base : Heap} : MsOk P w K mg base k m ps [] := fun c sp h => by cases h
theorem MsOk.cons {P : Program} {w : World} {K : PySem.W.Frag} {mg : Str → Option Value} {base : Heap} {k' : Nat} {ms : List (Str × Sp3)} (h : MthOk P w K mg base k' c m ps sp) (hk : k' ≤ k) (r : MsOk P w K mg base k m ps ms) : MsOk P w K mg base k m ps ((c, sp) :: ms) := fun d sp' hd => by
  cases hb : d == c with
  | true =>
    simp only [List.lookup, hb] at hd
    cases hd
    obtain rfl : d = c := beq_iff_eq.mp hb
    obtain ⟨C, f, fd, h1, h2, h3, h4, h5⟩ := h.ex
    exact ⟨C, f, fd, h1, h2, h3, h4.mono hk, h5⟩
  | false => simp only [List.lookup, hb] at hd; exact r d sp' hd
end
end L3

namespace L3
open PySem PySem.Spec PyProof.Rows L2
/-! ### exceptions of the text's own classes -/
/-- an exception that flies: its record at a, its traceback's at T -/
def XAt (h : Heap) (a : Addr) (C : Value) (T : Addr) : Prop :=
  ∃ oe vs oT ts a0, h.get? a = some oe ∧ (oe.cls = C ∧ vs[0]? = some a0) ∧ oe.data = .fields vs ∧ vs[1]? = some (.ref T) ∧ T ≠ a ∧ h.get? T = some oT ∧ oT.data = .fields ts ∧ ts[3]? = some .none
/-- what lies behind a call that an exception has left -/
def CXE (P : Program) (w : World) : CXT := fun outer H s E e s' => ∃ a T C H', e = .ref a ∧ s'.os = s.os ∧ AllBare s'.gens ∧ Un (frs outer) [] H H' s.heap s'.heap ∧ HOk P w H' s'.heap ∧
  s.heap.get? a = none ∧ s.heap.get? T = none ∧ H' a = none ∧ H' T = none ∧ XAt s'.heap a (.ref C) T ∧ E (.ref C) none H'
section
variable {M : Model} {A : Around} {E : Value → Shared → Prop} {s : Shared} {env : Env} {outer : List Env} {L a T t : Addr} {C : Value} {base : Heap} {Q : Unit → Shared → Prop}
end
section
variable {P : Program} {w : World} {K : PySem.W.Frag} {mg : Str → Option Value} {base : Heap} {N : List Str} {qual : Str} {scope : Scope} {f : Addr} {cd : Value} {A : Around} {outer : List Env} {s0 : Shared} {H0 : Hp} {E : XK}
end
end L3

namespace L3
open PySem PySem.Spec PyProof.Rows L2
section
variable {M : Model} {A : Around} {E : Value → Shared → Prop} {s : Shared} {env : Env} {outer : List Env} {L a T t : Addr} {C : Value} {base : Heap} {Q : Unit → Shared → Prop}
end
/-! ### expressions that an exception may leave -/
def KX (K : PySem.W.Frag) (H : Hp) (E3 : EK3) (E : XK) : Prop := ∀ c C H3' H', TK H H' → HR K H3' H' → PySem.W.nsIn K mainGlobals c = some (some (.ref C)) → E3 c H3' → E (.ref C) none H'
theorem KX.mono {K : PySem.W.Frag} {H H1 : Hp} {E3 : EK3} {E : XK} (k : KX K H E3 E) (t : TK H H1) : KX K H1 E3 E := fun c C H3 H' t' => k c C H3 H' (t.trans t')
def liftFE (K : PySem.W.Frag) (sp : SpE) : Sp := fun vs H Q E => ∃ ds H3 Q3 E3, HR K H3 H ∧ RepL K H ds vs ∧ sp ds H3 Q3 E3 ∧ KE K H Q3 Q ∧ KX K H E3 E
structure FnE (P : Program) (w : World) (K : PySem.W.Frag) (mg : Str → Option Value) (base : Heap) (k : Nat) (x : Str) (ps : List Str) (sp : SpE) : Prop where
  ex : ∃ f fd, FnOk P w K mg base (CXE P w) k f fd ps (liftFE K sp) ∧ mg x = some (.ref f) ∧ PySem.W.keepIn K (.ref f) = true ∧ Binds K fd ps []
section
variable {X : Cx} {k : Nat} {x c : Str} {f : Addr} {fd : FuncData} {ps : List Str} {sp : SpE} {p pos : Pos} {e : Expr} {es : List Expr} {t : TA3}
end
/-! ### raise -/
section
variable {X : Cx} {c : Str} {e : Expr} {te : TE3} {np cpos pos : Pos} {E : XK} {E3 : EK3}
end
end L3

namespace L3
open PySem PySem.Spec PyProof.Rows L2
section
variable {X : Cx} {st : Stmt} {sts : List Stmt} {e : Expr} {t : TS3} {te : TE3} {tt : TT3}
end
/-! ### except -/
end L3
namespace L3
open PySem PySem.Spec PyProof.Rows L2
section
variable {X : Cx} {A' : Around} {pins : List (Addr × Obj)} {σ : St} {H : Hp} {s : Shared}
end
end L3

/-! ### enumerate(list), int(bool) -/
namespace L3
open PySem PySem.Spec PyProof.Rows L2
section
variable {X : Cx} {tg : Expr}
end
end L3

namespace L3
open PySem PySem.Spec PyProof.Rows L2 PySem.Calls Builtin Builtin.ObjectAttr Builtin.Getset_descriptor
/-! ### isinstance of an exception -/
/-- what is known of an exception's class C -/
structure XCls (K : PySem.W.Frag) (C : Addr) : Prop where
  ga : PySem.W.findIn K (.ref C) "__getattribute__" = some (some (.builtin "BaseException.__getattribute__"))
  gh : PySem.W.findIn K (.ref C) "__getattr__" = some none
  cl : PySem.W.findIn K (.ref C) "__class__" = some (some (.builtin "object.__class__"))
  gs : PySem.W.specialIn K (.builtin "object.__class__") "__get__" = some (some (.builtin "getset_descriptor.__get__"))
  tk : PySem.W.takesIn K (.builtin "object.__class__") = some true
  mo : PySem.W.mroIn K C (.type "object") = some true
  mb : PySem.W.mroIn K C (.type "BaseException") = some true
section
variable {prog : Program} {w : World} {A : Around} {E : Value → Shared → Prop} {s : Shared} {K : PySem.W.Frag} {a C : Addr}
end
end L3

namespace L3
open PySem PySem.Spec PyProof.Rows L2
section
variable {X : Cx} {e : Expr} {ta : TE3} {cx : Str} {tbl : List (Str × Bool)} {p np pos : Pos}
end
/-! ### statements that an exception may leave; except .. as .. -/
section
variable {X : Cx} {pins : List (Addr × Obj)} {σ : St} {H : Hp} {s : Shared}
end
section
variable {X : Cx} {e : Expr} {t : EK3 → TE3} {pos : Pos}
end
end L3

namespace L3
open PySem PySem.Spec PyProof.Rows L2
/-! ### pure parts: what a dict holds at a key; its length -/
def dgk (x y : D) (H : Hp3) (Q : VK3) : Prop := match x, y with
  | .ref a, .tup ds => (match keysOf ds, H a with
    | some k, some (.dic kvs) => (match dlook kvs k with
      | some d => Q d H
      | none => False)
    | _, _ => False)
  | _, _ => False
def dg3 (ta tb : TE3) : TE3 := fun σ H Q => ta σ H fun x H1 => tb σ H1 fun y H2 => dgk x y H2 Q
def r3lenD : List D → Hp3 → VK3 → Prop := fun ds H Q => match ds with
  | [.ref a] => (match H a with
    | some (.dic kvs) => Q (.int kvs.length) H
    | _ => False)
  | _ => False
/-- a dict of pairs -/
def tabV (kvs : List (Pt × D)) : Tab := kvs.map fun kv => (kP kv.1, kv.2)
def lookV (kvs : List (Pt × D)) (c : Pt) : Option D := (kvs.find? fun kv => decide (kv.1 = c)).map (·.2)
def putV (kvs : List (Pt × D)) (c : Pt) (d : D) : List (Pt × D) := if (kvs.any fun kv => decide (kv.1 = c)) = true then kvs.map (fun kv => if kv.1 = c then (kv.1, d) else kv) else kvs ++ [(c, d)]
theorem dlook_V (c : Pt) : ∀ kvs : List (Pt × D), dlook (tabV kvs) (kP c) = lookV kvs c
  | [] => rfl
  | p :: kvs => by
    unfold tabV dlook lookV
    rw [List.map_cons]
    by_cases e : p.1 = c
    · rw [List.find?_cons_of_pos (by simp [e]), List.find?_cons_of_pos (by simp [e])]; rfl
    · have e' : ¬ kP p.1 = kP c := fun z => e (kP_inj z)
      rw [List.find?_cons_of_neg (by simpa using e'), List.find?_cons_of_neg (by simpa using e)]
      exact dlook_V c kvs
theorem dput_V (c : Pt) (d : D) (kvs : List (Pt × D)) : dput (tabV kvs) (kP c) d = tabV (putV kvs c d) := by
  have ha : ((tabV kvs).any fun kv => decide (kv.1 = kP c)) = kvs.any fun kv => decide (kv.1 = c) := by
    unfold tabV
    rw [List.any_map]
    congr 1
    funext kv
    by_cases e : kv.1 = c
    · simp [e]
    · have e' : ¬ kP kv.1 = kP c := fun z => e (kP_inj z)
      simp [e, e']
  unfold dput putV
  rw [ha]
  split
  · unfold tabV
    rw [List.map_map, List.map_map]
    refine List.map_congr_left fun kv _ => ?_
    show (if kP kv.1 = kP c then (kP kv.1, d) else (kP kv.1, kv.2)) = _
    by_cases e : kv.1 = c
    · simp [e]
    · have e' : ¬ kP kv.1 = kP c := fun z => e (kP_inj z)
      simp [e, e']
  · unfold tabV
    rw [List.map_append]; rfl
theorem tabV_len (kvs : List (Pt × D)) : (tabV kvs).length = kvs.length := by unfold tabV; rw [List.length_map]
theorem putV_keys (c : Pt) (d : D) (kvs : List (Pt × D)) : (putV kvs c d).map (·.1) = if c ∈ kvs.map (·.1) then kvs.map (·.1) else kvs.map (·.1) ++ [c] := by
  have ha : (kvs.any fun kv => decide (kv.1 = c)) = decide (c ∈ kvs.map (·.1)) := by
    rw [Bool.eq_iff_iff, List.any_eq_true, decide_eq_true_eq, List.mem_map]
    constructor
    · rintro ⟨x, hx, e⟩; exact ⟨x, hx, by simpa using e⟩
    · rintro ⟨x, hx, e⟩; exact ⟨x, hx, by simpa using e⟩
  unfold putV
  rw [ha]
  by_cases h : c ∈ kvs.map (·.1)
  · rw [if_pos (decide_eq_true h), if_pos h, List.map_map]
    refine List.map_congr_left fun kv _ => ?_
    show (if kv.1 = c then (kv.1, d) else kv).1 = kv.1
    split <;> rfl
  · rw [if_neg (by simpa using h), if_neg h, List.map_append]; rfl
theorem putV_nodup {c : Pt} {d : D} {kvs : List (Pt × D)} (h : (kvs.map (·.1)).Nodup) : ((putV kvs c d).map (·.1)).Nodup := by
  rw [putV_keys]
  split
  · exact h
  · rename_i z
    rw [List.nodup_append]
    exact ⟨h, by simp, fun a ha b hb => by rw [List.mem_singleton.mp hb]; exact fun e => z (e ▸ ha)⟩
theorem putV_mem {c q : Pt} {d : D} {kvs : List (Pt × D)} : q ∈ (putV kvs c d).map (·.1) ↔ q ∈ kvs.map (·.1) ∨ q = c := by
  rw [putV_keys]
  split
  · rename_i z
    constructor
    · exact .inl
    · rintro (y | rfl)
      · exact y
      · exact z
  · simp
theorem find_map {c q : Pt} {d : D} (h : ¬ c = q) : ∀ kvs : List (Pt × D), lookV (kvs.map fun kv => if kv.1 = c then (kv.1, d) else kv) q = lookV kvs q
  | [] => rfl
  | p :: kvs => by
    have ih := find_map (d := d) h kvs
    unfold lookV at ih ⊢
    rw [List.map_cons]
    by_cases e : p.1 = q
    · have e' : ¬ p.1 = c := fun z => h (z ▸ e)
      rw [if_neg e', List.find?_cons_of_pos (by simp [e]), List.find?_cons_of_pos (by simp [e])]
    · have e1 : ¬ (if p.1 = c then (p.1, d) else p).1 = q := by split <;> exact e
      rw [List.find?_cons_of_neg (by simpa using e1), List.find?_cons_of_neg (by simpa using e)]
      exact ih
theorem find_same {c : Pt} {d : D} : ∀ kvs : List (Pt × D), (kvs.any fun kv => decide (kv.1 = c)) = true → lookV (kvs.map fun kv => if kv.1 = c then (kv.1, d) else kv) c = some d
  | [], h => by simp at h
  | p :: kvs, h => by
    unfold lookV
    rw [List.map_cons]
    by_cases e : p.1 = c
    · rw [if_pos e, List.find?_cons_of_pos (by simp [e])]; rfl
    · rw [List.any_cons, decide_eq_false e, Bool.false_or] at h
      have ih := find_same (d := d) kvs h
      unfold lookV at ih
      rw [if_neg e, List.find?_cons_of_neg (by simpa using e)]
      exact ih
theorem lookV_put {c q : Pt} {d : D} {kvs : List (Pt × D)} : lookV (putV kvs c d) q = if q = c then some d else lookV kvs q := by
  unfold putV
  by_cases h : (kvs.any fun kv => decide (kv.1 = c)) = true
  · rw [if_pos h]
    by_cases e : q = c
    · subst e; rw [if_pos rfl]; exact find_same kvs h
    · rw [if_neg e]; exact find_map (fun z => e z.symm) kvs
  · rw [if_neg h]
    by_cases e : q = c
    · subst e
      rw [if_pos rfl]
      unfold lookV
      rw [List.find?_append]
      have : kvs.find? (fun kv => decide (kv.1 = q)) = none := by
        rw [List.find?_eq_none]
        intro x hx z
        exact h (List.any_eq_true.mpr ⟨x, hx, z⟩)
      rw [this, Option.none_or, List.find?_cons_of_pos (by simp)]; rfl
    · rw [if_neg e]
      unfold lookV
      rw [List.find?_append, List.find?_cons_of_neg (by simpa using fun z : c = q => e z.symm), List.find?_nil, Option.or_none]
section
variable {H : Hp3} {Q : VK3} {σ : St3} {a : Addr} {p1 p2 : Int} {d : D} {kvs : List (Pt × D)} {ta tb : TE3}
theorem g_dg (h : ta σ H fun x H1 => tb σ H1 fun y H2 => dgk x y H2 Q) : dg3 ta tb σ H Q := h
theorem g_dgk (h : H a = some (.dic (tabV kvs))) (hl : lookV kvs (p1, p2) = some d) (q : Q d H) : dgk (.ref a) (.tup [.int p1, .int p2]) H Q := by
  have e : keysOf [D.int p1, .int p2] = some (kP (p1, p2)) := rfl
  simp only [dgk, e, h, dlook_V, hl]; exact q
theorem g_lenD {kvs : Tab} (h : H a = some (.dic kvs)) (q : Q (.int kvs.length) H) : r3lenD [.ref a] H Q := by
  simp only [r3lenD, h]; exact q
theorem g_dpV {R : St3 → Hp3 → Prop} (ha : H a = some (.dic (tabV kvs))) (hl : kvs.length < 1000) (q : R σ (upd3 H a (.dic (tabV (putV kvs (p1, p2) d))))) : dpk d (.ref a) (.tup [.int p1, .int p2]) σ H R := by
  have e : keysOf [D.int p1, .int p2] = some (kP (p1, p2)) := rfl
  simp only [dpk, e, ha, dput_V]
  exact ⟨by rw [tabV_len]; exact hl, q⟩
end
end L3

namespace L3
open PySem PySem.Spec PyProof.Rows L2
section
variable {X : Cx} {o i : Expr} {ta tb : TE3} {pos : Pos}
theorem p3_dget (hu : X.A.units + 64 < cLine) (ho : PE3 X o ta) (hi : PE3 X i tb) (hs : NoSl i := by exact fun _ _ => rfl) : PE3 X (.Subscript o i pos) (dg3 ta tb) :=
  pe_imp (pe_dget (Nat.lt_of_le_of_lt (Nat.add_le_add_left (by decide : 1 ≤ 64) _) hu) ho hi hs) fun _ _ _ ⟨σ3, H3, Q3, sr, hr, t, k⟩ => ⟨σ3, H3, _, sr, hr, t, fun x v H3a Ha tka hra rx qa => ⟨σ3, H3a, _, sr.mono tka, hra, qa, fun y u H3b Hb tkb hrb ry qb => by
    have rx' := rx.mono tkb
    cases rx' with
    | ref a =>
      cases ry with
      | tup hy ry =>
        simp only [dgk] at qb
        split at qb
        · rename_i ks kvs e1 e2
          split at qb
          · rename_i d e3
            obtain ⟨vs, gd, rd⟩ := hrb a _ e2
            have ex := keys_rep ry e1
            subst ex
            obtain ⟨v, hv, rv⟩ := (TR.look (k := ks) rd).2 d e3
            exact ⟨a, v, rfl, by rw [← hv]; exact DGet.t gd hy, k _ _ _ _ (tka.trans tkb) hrb rv qb⟩
          · exact qb.elim
        · exact qb.elim
      | _ => exact qb.elim
    | _ => exact qb.elim⟩⟩
theorem paired_len {α β : Type} {F : α → β → Prop} : ∀ {l : List α} {m : List β}, Paired F l m → l.length = m.length
  | _, _, .nil => rfl
  | _, _, .cons _ t => by rw [List.length_cons, List.length_cons, paired_len t]
theorem meets_lenH {prog : Program} {w : World} {K : Type} [DecidableEq K] {knd : HeapKind prog w K} {d : Addr} (hd : (d == sysModules) = false) :
    MeetsIn prog w (Builtin.«dict.__len__» ⟨[.ref d], []⟩) (fun _ R s => ∃ xs : List (K × Addr × Value), s.heap.DictOfH knd d xs ∧ R (.ok (.ret (.int xs.length s.toks))) { s with toks := s.toks + 1 }) :=
  .of_wp fun A R s ⟨xs, hm, h⟩ => by
    obtain ⟨o, es, ep, ho, hc, hdat, he, hp, hn⟩ := hm
    show wpAny _ _ (dictSize d >>= _) _ _ s
    unfold dictSize
    refine wpAny_bind (wpAny_bind (wpAny_dictEntries ho hdat (wpAny_pure ?_)))
    show wpAny _ _ (Builtin.Dict.pendingCount d >>= _) _ _ s
    refine wpAny_bind (wpAny_pendingCount_other hd ?_)
    refine wpAny_ret_mkInt ?_
    rw [Nat.add_zero, size_of_entries he]; exact h
theorem len_dictH {prog : Program} {w : World} {K : Type} [DecidableEq K] {knd : HeapKind prog w K} {A : Around} {E : Value → Shared → Prop} {s : Shared} {d : Addr} {xs : List (K × Addr × Value)} {Q : Value → Shared → Prop} (hd : (d == sysModules) = false) (hm : s.heap.DictOfH knd d xs) (hfit : (xs.length : Int) < 2 ^ 63)
    (h : Q (.int xs.length (s.toks + 1)) { s with toks := s.toks + 1 + 1 }) : wpAny (model prog w) A (call (.builtin "len") [.ref d]) Q E s := by
  refine Calls.call_function_entry kind_len plain_len entry_len (args_len1 _) ?_
  unfold Builtin.«len»
  refine wpAny_bind (m := oneArg "len" _) (wpAny_pure ?_)
  refine wpAny_bind (m := callSpecial? (.ref d) (Str.ofString "__len__")) (wpAny_callSpecial?_slot (name := Str.ofString "__len__") hm.typeIs F.slot_dict_len
    (call_meetsIn F.slot_dict_len hm.typeIs F.entry_dict_len (F.args_dict_len_1 _) (meets_lenH (knd := knd) hd) ⟨xs, hm, ?_⟩))
  show wpAny _ _ _ _ _ { s with toks := s.toks + 1 }
  refine wpAny_bind (wpAny_holding (wpAny_pure ?_))
  refine wpAny_bind (wpAny_letGo ?_)
  show wpAny _ _ (if ((xs.length : Nat) : Int) < 0 then _ else _) _ _ _
  rw [if_neg (by omega)]
  show wpAny _ _ (if ((xs.length : Nat) : Int) ≥ 2 ^ 63 then _ else _) _ _ _
  rw [if_neg (by omega)]
  exact wpAny_bind (wpAny_mkInt (wpAny_pure ⟨_, rfl, h⟩))
theorem cb3_lenD : CallR X (.builtin "len") (liftC X.K r3lenD) := by
  intro pins s σ H xs us Q I rs h
  obtain ⟨ds, H3, Q3, hr, rd, t, k⟩ := h
  cases rd with
  | nil => exact t.elim
  | cons r1 r2 =>
    cases r2 with
    | cons _ _ => cases r1 <;> exact t.elim
    | nil =>
      cases r1 with
      | ref a =>
        simp only [r3lenD] at t
        split at t
        · rename_i kvs ha
          obtain ⟨ks, ga, ra⟩ := hr a _ ha
          obtain ⟨z, hd, ys, rel, dd⟩ := dt_of I.hok ga
          obtain ⟨u, rfl, ru⟩ := Vals.one rs
          obtain rfl : u = Value.ref a := ru
          have l1 : ys.length = ks.length := (paired_len rel).symm
          have l2 : kvs.length = ks.length := paired_len ra
          refine len_dictH hd dd (by rw [l1]; rw [sizeLine_eq] at z; omega) ?_
          refine ⟨.int kvs.length, H, I.tok _, ⟨_, by rw [l1, ← l2]⟩, k _ _ _ _ TK.refl hr (.int _) t⟩
        · exact t.elim
      | _ => exact t.elim
end
end L3


namespace Law
open PySem PySem.Spec PyProof.Rows L2 L3
set_option maxHeartbeats 8000000
abbrev N_added : List Str := ["one", "other"]
abbrev P_added : List Str := ["one", "other"]
abbrev N_corners_of : List Str := ["corner", "word", "corners", "letter"]
abbrev P_corners_of : List Str := ["corner", "word"]
abbrev N_sides_of : List Str := ["cell", "x", "y"]
abbrev P_sides_of : List Str := ["cell"]
abbrev N_letters_by_corner : List Str := ["piece", "letters", "cell", "side"]
abbrev P_letters_by_corner : List Str := ["piece"]
abbrev N_border_of : List Str := ["piece", "letters", "start", "word", "corner", "letter"]
abbrev P_border_of : List Str := ["piece"]
abbrev N_across : List Str := ["piece", "border", "corners"]
abbrev P_across : List Str := ["piece"]
abbrev N_l_cell_at : List Str := ["_law_script", "_law_k"]
abbrev P_l_cell_at : List Str := ["_law_script", "_law_k"]
abbrev N_l_mix : List Str := ["_law_script", "_law_k"]
abbrev P_l_mix : List Str := ["_law_script", "_law_k"]
abbrev N_l_whole : List Str := ["_law_found"]
abbrev P_l_whole : List Str := ["_law_found"]
abbrev N_l_is_pair : List Str := ["_law_found"]
abbrev P_l_is_pair : List Str := ["_law_found"]
abbrev N_l_pairs : List Str := ["_law_found", "_law_due", "_law_k"]
abbrev P_l_pairs : List Str := ["_law_found", "_law_due"]
abbrev N_l_sorted : List Str := ["_law_cells", "_law_row", "_law_cell", "_law_at"]
abbrev P_l_sorted : List Str := ["_law_cells"]
abbrev N_l_beside : List Str := ["_law_cell"]
abbrev P_l_beside : List Str := ["_law_cell"]
abbrev N_l_shuts_in : List Str := ["_law_cells", "_law_spot", "_law_x", "_law_y", "_law_ring", "_law_empty", "_law_runs", "_law_k"]
abbrev P_l_shuts_in : List Str := ["_law_cells", "_law_spot"]
abbrev N_l_grown : List Str := ["_law_script", "_law_at", "_law_many", "_law_cells", "_law_k", "_law_cell", "_law_side"]
abbrev P_l_grown : List Str := ["_law_script", "_law_at", "_law_many"]
abbrev N_l_far : List Str := ["_law_cell"]
abbrev P_l_far : List Str := ["_law_cell"]
abbrev N_l_border : List Str := ["_law_piece", "_law_letters", "_law_x", "_law_y", "_law_sides", "_law_corner", "_law_k"]
abbrev P_l_border : List Str := ["_law_piece"]
abbrev N_law : List Str := ["_law_script", "_law_x", "_law_y", "_law_grown_here", "_law_piece", "_law_due", "_law_found"]
abbrev P_law : List Str := ["_law_script"]
def c_STEPS : List (Str × D) := [("e", .ktup (([1, 0] : List Int).map D.int)), ("n", .ktup (([0, 1] : List Int).map D.int)), ("w", .ktup (([-1, 0] : List Int).map D.int)), ("s", .ktup (([0, -1] : List Int).map D.int))]
def c_RIGHT_HAND : List (Str × D) := [("e", .ktup (([0, -1] : List Int).map D.int)), ("n", .ktup (([0, 0] : List Int).map D.int)), ("w", .ktup (([-1, 0] : List Int).map D.int)), ("s", .ktup (([-1, -1] : List Int).map D.int))]
/-! one step of a reading; "l3h": what stands in the heap; "l3a": a side's arithmetic; "l3c": a call by its specification; "l3": as far as it goes -/
local macro_rules | `(tactic| walk_at "l3h") => `(tactic| first
  | with_reducible exact upd3_same
  | assumption
  | exact upd3_old (by walk_at "l3h") (by assumption))
local macro_rules | `(tactic| walk_at "l3a") => `(tactic| first
  | with_reducible assumption
  | decide
  | omega
  | exact ⟨by decide, by decide⟩
  | exact Or.inl ⟨by decide, by decide⟩
  | exact Or.inr ⟨by decide, by decide⟩
  | exact ⟨by decide, by decide, by decide⟩
  | exact Or.inl ⟨by omega, by omega⟩
  | exact Or.inr ⟨by omega, by omega⟩
  | exact ⟨by omega, by omega⟩)
/-! "l3b": bits of a number; "l3w": a factor or divisor of some bits -/
local macro_rules | `(tactic| walk_at "l3b") => `(tactic| first
  | with_reducible assumption
  | ((with_reducible show Bt _ (_ + _)); exact Bt.add (by walk_at "l3b") (by walk_at "l3b"))
  | ((with_reducible show Bt _ (_ - _)); exact Bt.sub (by walk_at "l3b") (by walk_at "l3b"))
  | ((with_reducible show Bt _ (_ * _)); exact Bt.mul (by walk_at "l3b") (by walk_at "l3b"))
  | ((with_reducible show Bt _ (-_)); exact Bt.neg (by walk_at "l3b"))
  | ((with_reducible show Bt _ (_ / _)); exact Bt.div (by walk_at "l3b"))
  | exact Bt.lit (n := 64) (by decide)
  | exact Bt.lit (n := 256) (by decide))
local macro_rules | `(tactic| walk_at "l3w") => `(tactic| first
  | ((with_reducible show CDivW _ _); exact And.intro (by walk_at "l3a") (Bt.mono (by walk_at "l3b") (by decide)))
  | exact Or.inl (by walk_at "l3a")
  | exact CMulW.of (by walk_at "l3b") (by walk_at "l3b") (by decide))
local macro_rules | `(tactic| walk_at "l3s") => `(tactic| first
  | with_reducible refine g_sq ?_
  | ((with_reducible show v3 _ _ _ _); refine g_v3 rfl ?_)
  | with_reducible refine g_c3 ?_
  | with_reducible refine g_o3 ?_
  | with_reducible refine g_st ?_
  | ((with_reducible refine g_gone ?_); (try dsimp only [List.set_cons_zero, List.set_cons_succ]))
  | with_reducible refine g_goneR ?_
  | ((fail_if_success (with_reducible show Ends3.nx (fin3 _) _ _)); (with_reducible refine g_nx ?_); (try dsimp only [List.set_cons_zero, List.set_cons_succ]))
  | with_reducible refine g_cb ?_
  | with_reducible refine g_cons ?_
  | with_reducible refine g_nil ?_
  | with_reducible refine g_is ?_
  | with_reducible refine g_ts ?_
  | with_reducible refine g_bt ?_
  | with_reducible refine g_rt3 ?_
  | ((fail_if_success (with_reducible show Ends3.rt (fin3 _) _ _)); with_reducible refine g_rt ?_)
  | with_reducible refine g_tp ?_
  | ((with_reducible show List.length _ ≤ 1000 ∧ _); refine g_and rfl ?_)
  | with_reducible refine g_add ?_
  | with_reducible refine g_sub ?_
  | with_reducible refine g_eqI ?_
  | with_reducible refine g_neI ?_
  | with_reducible refine g_eqP ?_
  | with_reducible refine g_neP ?_
  | with_reducible refine g_eqT3 ?_
  | with_reducible refine g_neT3 ?_
  | with_reducible refine g_le ?_
  | with_reducible refine g_lt ?_
  | with_reducible refine g_gt ?_
  | with_reducible refine g_ge ?_
  | with_reducible refine g_ltT ?_
  | with_reducible refine g_neg ?_
  | with_reducible refine g_u3 ?_
  | ((with_reducible show i3mul _ _ _ _); refine g_mul (by walk_at "l3a") ?_)
  | ((with_reducible show i3div _ _ _ _); refine g_div (by walk_at "l3a") ?_)
  | ((with_reducible show i3mulW _ _ _ _); refine g_mulW (by walk_at "l3w") ?_)
  | ((with_reducible show i3divW _ _ _ _); refine g_divW (by walk_at "l3w") ?_)
  | ((with_reducible show i3mod _ _ _ _); refine g_mod (by walk_at "l3a") ?_)
  | ((with_reducible show i3pow _ _ _ _); refine g_pow (by walk_at "l3a") ?_)
  | ((with_reducible show r3ix (D.tup _) (D.int _) _ _); refine g_ixT rfl ?_)
  | with_reducible refine g_an ?_
  | with_reducible refine g_or ?_
  | with_reducible refine g_no ?_
  | with_reducible refine g_av ?_
  | with_reducible refine g_avk ?_
  | with_reducible refine g_ov ?_
  | with_reducible refine g_ovk ?_
  | with_reducible refine g_nv ?_
  | with_reducible refine g_nvk ?_
  | with_reducible refine g_if3 ?_
  | with_reducible refine g_isN ?_
  | with_reducible refine g_notN ?_
  | with_reducible refine g_ls ?_
  | with_reducible refine g_lenT ?_
  | with_reducible refine g_lenF ?_
  | ((with_reducible show r3len [D.ref _] _ _); refine g_lenL (by walk_at "l3h") ?_)
  | with_reducible refine g_tupT ?_
  | ((with_reducible show r3tuple [D.ref _] _ _); refine g_tupL (by walk_at "l3h") ?_)
  | with_reducible refine g_listT ?_
  | ((with_reducible show r3list [D.ref _] _ _); refine g_listL (by walk_at "l3h") ?_)
  | with_reducible refine g_sl ?_
  | with_reducible refine g_np ?_
  | with_reducible refine g_pt ?_
  | with_reducible refine g_ptk ?_
  | with_reducible refine g_slF ?_
  | ((with_reducible show r3sl (D.ref _) _ _ _ _); refine g_slL (by walk_at "l3h") ?_)
  | with_reducible refine g_nx3 ?_
  | with_reducible refine g_br3 ?_
  | with_reducible refine g_co3 ?_
  | with_reducible refine g_dr ?_
  | with_reducible refine g_rn3 ?_
  | with_reducible refine g_as ?_
  | ((with_reducible refine g_gn ?_); (try dsimp only [List.set_cons_zero, List.set_cons_succ]))
  | ((with_reducible refine g_g2 ?_); (try dsimp only [List.set_cons_zero, List.set_cons_succ]))
  | ((with_reducible refine g_g3 ?_); (try dsimp only [List.set_cons_zero, List.set_cons_succ]))
  | with_reducible refine g_bk ?_
  | with_reducible refine g_ct ?_
  | with_reducible refine g_fo ?_
  | with_reducible refine g_ir1 ?_
  | with_reducible refine g_ir2 ?_
  | with_reducible refine g_rg1 ?_
  | with_reducible refine g_rg2 ?_
  | with_reducible refine g_il ?_
  | ((with_reducible show ilk (D.ref _) _ _); refine g_ilR (by walk_at "l3h") ?_)
  | with_reducible refine g_ilF ?_
  | with_reducible refine g_it ?_
  | with_reducible refine g_itT ?_
  | ((with_reducible show au3 _ _ _ _ _ _); refine g_au rfl ?_)
  | with_reducible refine g_iadd ?_
  | with_reducible refine g_isub ?_
  | with_reducible refine g_max2 ?_
  | with_reducible refine g_ikd ?_
  | with_reducible refine g_irv ?_
  | with_reducible refine g_kd ?_
  | ((with_reducible show r3ix (D.ktup _) (D.int _) _ _); refine g_ixK rfl ?_)
  | with_reducible refine g_pr ?_
  | with_reducible refine g_rvl ?_
  | ((with_reducible show rvk (D.ref _) _ _); refine g_rvk (by walk_at "l3h") ?_)
  | with_reducible refine g_izp ?_
  | with_reducible refine g_ien ?_
  | ((with_reducible show enk (D.ref _) _ _); refine g_enk (by walk_at "l3h") ?_)
  | with_reducible refine g_intB ?_
  | with_reducible refine g_cbE ?_
  | with_reducible refine g_rz ?_
  | with_reducible refine g_try ?_
  | with_reducible refine g_isx3 ?_
  | ((with_reducible show isxk _ (D.ref _) _ _); refine g_isxk (by walk_at "l3h") rfl ?_)
  | with_reducible refine g_trA ?_
  | with_reducible refine g_sxE ?_
  | with_reducible refine g_sxS ?_
  | with_reducible refine g_fd ?_
  | ((with_reducible show r3fld _ _ (D.ref _) _ _); refine g_fld (by walk_at "l3h") (by decide) rfl ?_)
  | with_reducible refine g_sfa ?_
  | ((with_reducible show r3sf _ _ _ (D.ref _) _ _); refine g_sf (by walk_at "l3h") (by decide) (by decide) ?_)
  | with_reducible refine g_me ?_
  | ((with_reducible show r3meth _ _ (D.ref _) _ _); refine g_meth (by walk_at "l3h") rfl rfl ?_)
  | with_reducible refine g_mk ?_
  | with_reducible refine g_izt ?_
  | with_reducible refine g_itz ?_
  | with_reducible refine g_mz ?_
  | with_reducible refine g_mzk ?_
  | with_reducible refine g_iz ?_
  | with_reducible refine g_izS ?_
  | with_reducible refine g_m3 ?_
  | ((with_reducible show mtk _ _ _ (D.ref _) _ _); refine g_mtk (by walk_at "l3h") ?_)
  | with_reducible refine g_dg ?_
  | with_reducible refine g_dp ?_
  | with_reducible refine g_dn ?_
  | with_reducible refine g_dd ?_
  | with_reducible refine g_so ?_
  | with_reducible refine g_eqB ?_
  | with_reducible refine g_cp ?_
  | with_reducible refine g_yes ?_
  | ((with_reducible show r3isi [_, D.ty _] _ _); refine g_isi rfl (by simp [kinds]) ?_)
  | walk_at "l3c")
local macro_rules | `(tactic| walk_at "l3") => `(tactic| repeat walk_at "l3s")
/-! words of the four letters -/
abbrev Lt := Fin 4
def cp (l : Lt) : Nat := match l with
  | 0 => 101
  | 1 => 110
  | 2 => 119
  | 3 => 115
def step (l : Lt) : Pt := match l with
  | 0 => (1, 0)
  | 1 => (0, 1)
  | 2 => (-1, 0)
  | 3 => (0, -1)
def lt1 (l : Lt) : Str := ⟨#[cp l]⟩
def wStr (ls : List Lt) : Str := ⟨(ls.map cp).toArray⟩
theorem lets_w (ls : List Lt) : lets (wStr ls) = ls.map fun l => D.str (lt1 l) := by
  unfold lets wStr lt1; rw [List.toList_toArray, List.map_map]; rfl
theorem wStr_len (ls : List Lt) : (wStr ls).length = ls.length := by
  show (ls.map cp).toArray.size = _; rw [List.size_toArray, List.length_map]
theorem cp_inj : ∀ {a b : Lt}, cp a = cp b → a = b := by decide
theorem wStr_inj {as bs : List Lt} (h : wStr as = wStr bs) : as = bs := by
  have e : as.map cp = bs.map cp := by
    have := congrArg (fun z : Str => z.cps.toList) h
    simpa [wStr] using this
  exact (List.map_inj_right fun a b hab => cp_inj hab).mp e
def adp (s p : Pt) : Pt := (p.1 + s.1, p.2 + s.2)
def endp (c : Pt) (ls : List Lt) : Pt := ls.foldl (fun p l => adp (step l) p) c
def path (c : Pt) (ls : List Lt) : List Pt := (List.range (ls.length + 1)).map fun i => endp c (ls.take i)
theorem endp_snoc (c : Pt) (ls : List Lt) (l : Lt) : endp c (ls ++ [l]) = adp (step l) (endp c ls) := by unfold endp; rw [List.foldl_append]; rfl
theorem endp_app (c : Pt) (as bs : List Lt) : endp c (as ++ bs) = endp (endp c as) bs := by unfold endp; rw [List.foldl_append]
theorem path_len (c : Pt) (ls : List Lt) : (path c ls).length = ls.length + 1 := by unfold path; simp
theorem path_snoc (c : Pt) (ls : List Lt) (l : Lt) : path c (ls ++ [l]) = path c ls ++ [adp (step l) (endp c ls)] := by
  unfold path
  rw [List.length_append, List.length_singleton, List.range_succ (n := ls.length + 1), List.map_append]
  congr 1
  · refine List.map_congr_left fun i hi => ?_
    rw [List.mem_range] at hi
    rw [List.take_append_of_le_length (by omega)]
  · rw [List.map_singleton, List.take_of_length_le (by simp), endp_snoc]
theorem path_get (c : Pt) (ls : List Lt) (i : Nat) : (path c ls)[i]? = if i ≤ ls.length then some (endp c (ls.take i)) else none := by
  unfold path
  rw [List.getElem?_map]
  split
  · rw [List.getElem?_range (by omega)]; rfl
  · rw [List.getElem?_eq_none (by rw [List.length_range]; omega)]; rfl
theorem path_app (c : Pt) (as bs : List Lt) : path c (as ++ bs) = (path c as).dropLast ++ path (endp c as) bs := by
  refine List.ext_getElem? fun i => ?_
  rw [path_get, List.length_append]
  have hl : (path c as).dropLast.length = as.length := by rw [List.length_dropLast, path_len]; rfl
  by_cases h : i < as.length
  · rw [if_pos (by omega), List.getElem?_append_left (by omega), List.getElem?_dropLast, if_pos (by rw [path_len]; omega), path_get, if_pos (by omega), List.take_append_of_le_length (by omega)]
  · rw [List.getElem?_append_right (by omega), hl, path_get]
    by_cases h2 : i ≤ as.length + bs.length
    · rw [if_pos h2, if_pos (by omega), ← endp_app, List.take_append, List.take_of_length_le (by omega)]
    · rw [if_neg h2, if_neg (by omega)]
/-- at the end -/
theorem path_last (c : Pt) (ls : List Lt) : atI ((path c ls).map prP) (-1) = some (.tup [.int (endp c ls).1, .int (endp c ls).2]) := by
  unfold atI ixN
  rw [List.length_map, path_len, if_neg (by omega), if_pos (by omega), Option.bind_some, List.getElem?_map, show (-1 + ((ls.length + 1 : Nat) : Int)).toNat = ls.length from by omega, path_get, if_pos (Nat.le_refl _), List.take_length]
  rfl
theorem wStr_app (as bs : List Lt) : wStr as ++ wStr bs = wStr (as ++ bs) := by
  show (⟨(as.map cp).toArray ++ (bs.map cp).toArray⟩ : Str) = ⟨_⟩
  congr 1
  rw [List.map_append]; simp
theorem path_pop (c : Pt) (ls : List Lt) : ((path c ls).map prP)[((path c ls).map prP).length - 1]? = some (prP (endp c ls)) := by
  rw [List.length_map, path_len, List.getElem?_map, Nat.add_sub_cancel, path_get, if_pos (Nat.le_refl _), List.take_length]; rfl
theorem path_cut (c : Pt) (ls : List Lt) : cut3 ((path c ls).map prP) none (some (-1)) = (path c ls).dropLast.map prP := by
  rw [cut3_map]
  congr 1
  have e : path c ls = (path c ls).dropLast ++ [endp c ls] := by
    refine List.ext_getElem? fun i => ?_
    have hl : (path c ls).dropLast.length = ls.length := by rw [List.length_dropLast, path_len]; rfl
    by_cases h : i < ls.length
    · rw [List.getElem?_append_left (by omega), List.getElem?_dropLast, if_pos (by rw [path_len]; omega)]
    · rw [List.getElem?_append_right (by omega), hl, path_get]
      by_cases h2 : i = ls.length
      · subst h2
        rw [if_pos (Nat.le_refl _), List.take_length, Nat.sub_self]; rfl
      · rw [if_neg (by omega), List.getElem?_eq_none (by simp; omega)]
  rw [e, List.dropLast_concat]
  exact cut3_init _ _
theorem g_addZ {y z : Str} {H : Hp3} {Q : VK3} (hl : y.length + z.length ≤ sizeLine) (q : Q (.str (y ++ z)) H) : r3add (.str y) (.str z) H Q := ⟨hl, q⟩
theorem g_ixZ {z : Str} {i : Int} {c : Nat} {H : Hp3} {Q : VK3} (hz : z.length ≤ sizeLine) (h : atI z.cps.toList i = some c) (q : Q (.str ⟨#[c]⟩) H) : r3ix (.str z) (.int i) H Q := by
  simp only [r3ix, h]; exact ⟨hz, q⟩
theorem cp_small (l : Lt) : cp l < 0x110000 := by revert l; decide
theorem strOk_w (ls : List Lt) : PyData.strOk (wStr ls) = true := by
  show (ls.map cp).toArray.all (· < 0x110000) = true
  rw [List.all_toArray, List.all_map, List.all_eq_true]
  intro l _
  exact decide_eq_true (cp_small l)
theorem pyH_w (H : Hp3) (ls : List Lt) : pyH H (.str (wStr ls)) = some (.str (wStr ls)) := by
  show (if PyData.strOk (wStr ls) = true then some (PyData.str (wStr ls)) else none) = _
  rw [if_pos (strOk_w ls)]
theorem eqv_w (as bs : List Lt) : PyData.eqv (.str (wStr as)) (.str (wStr bs)) = decide (as = bs) := by
  simp only [PyData.eqv]
  by_cases h : as = bs
  · subst h; simp
  · rw [decide_eq_false h]
    exact beq_eq_false_iff_ne.mpr fun z => h (wStr_inj z)
theorem g_eqW {as bs : List Lt} {H : Hp3} {Q : VK3} (q : Q (.bl (decide (as = bs))) H) : r3eq (.str (wStr as)) (.str (wStr bs)) H Q := by
  simp only [r3eq, pyH_w, eqv_w]; exact q
theorem g_neW {as bs : List Lt} {H : Hp3} {Q : VK3} (q : Q (.bl (!decide (as = bs))) H) : r3ne (.str (wStr as)) (.str (wStr bs)) H Q := by
  simp only [r3ne, pyH_w, eqv_w]; exact q
/-- the opposite letter; the word gone backwards -/
def opp (l : Lt) : Lt := match l with
  | 0 => 2
  | 1 => 3
  | 2 => 0
  | 3 => 1
def bk (ls : List Lt) : List Lt := (ls.map opp).reverse
theorem opp_opp (l : Lt) : opp (opp l) = l := by revert l; decide
theorem bk_bk (ls : List Lt) : bk (bk ls) = ls := by
  unfold bk
  rw [List.map_reverse, List.reverse_reverse, List.map_map, show opp ∘ opp = id from funext opp_opp, List.map_id]
theorem bk_app (as bs : List Lt) : bk (as ++ bs) = bk bs ++ bk as := by unfold bk; rw [List.map_append, List.reverse_append]
theorem bk_len (ls : List Lt) : (bk ls).length = ls.length := by unfold bk; rw [List.length_reverse, List.length_map]
theorem step_opp (l : Lt) (p : Pt) : adp (step (opp l)) (adp (step l) p) = p := by
  obtain ⟨x, y⟩ := p
  match l with
  | 0 => exact Prod.ext (by show x + 1 + -1 = x; omega) (by show y + 0 + 0 = y; omega)
  | 1 => exact Prod.ext (by show x + 0 + 0 = x; omega) (by show y + 1 + -1 = y; omega)
  | 2 => exact Prod.ext (by show x + -1 + 1 = x; omega) (by show y + 0 + 0 = y; omega)
  | 3 => exact Prod.ext (by show x + 0 + 0 = x; omega) (by show y + -1 + 1 = y; omega)
/-- the join of letters -/
theorem join_w {ls : List Lt} {a : Addr} {H : Hp3} {Q : VK3} (ha : H a = some (.lst (ls.map fun l => D.str (lt1 l)))) (hl : ls.length ≤ 1000) (q : Q (.str (wStr ls)) H) : r3join (.str (Str.ofString "")) [.ref a] H Q := by
  have ej : joinZ (Str.ofString "") (ls.map lt1) = wStr ls := by
    have := joinZ_lets (z := Str.ofString "") rfl (ls.map cp)
    rw [List.map_map] at this
    exact this
  refine g_join (ys := ls.map lt1) (by rw [ha, List.map_map]; rfl) ?_ (by rw [ej]; exact q)
  rw [List.map_map, List.length_map]
  have : (ls.map ((fun y : Str => y.cps.size) ∘ lt1)).sum = ls.length := by
    rw [show ((fun y : Str => y.cps.size) ∘ lt1) = fun _ => 1 from rfl, List.map_const', List.sum_replicate_nat]; omega
  rw [this, show (Str.ofString "").cps.size = 0 from rfl]
  omega
theorem wStr_le (ls : List Lt) (h : ls.length ≤ 1000) : (wStr ls).length ≤ sizeLine := by rw [wStr_len, sizeLine_n]; omega
theorem cut3_mapN {α β : Type} (xs : List α) (f : α → β) (lo hi : Option Int) : cut3 (xs.map f) lo hi = (cut3 xs lo hi).map f := by
  unfold cut3
  rw [List.length_map, ← List.map_drop, ← List.map_take]
theorem cut_take (ls : List Lt) (n : Nat) : cutZ (wStr ls) none (some (n : Int)) = wStr (ls.take n) := by
  unfold cutZ wStr
  rw [List.toList_toArray, cut3_mapN]
  congr 2
  unfold cut3 HT.sIx
  simp only []
  rw [if_neg (by omega), Int.toNat_natCast, List.drop_zero, Nat.sub_zero]
  by_cases h : n ≤ ls.length
  · rw [Nat.min_eq_left h]
  · rw [Nat.min_eq_right (by omega), List.take_length, List.take_of_length_le (by omega)]
theorem cut_drop (ls : List Lt) (n : Nat) : cutZ (wStr ls) (some (n : Int)) none = wStr (ls.drop n) := by
  unfold cutZ wStr
  rw [List.toList_toArray, cut3_mapN]
  congr 2
  unfold cut3 HT.sIx
  simp only []
  rw [if_neg (by omega), Int.toNat_natCast]
  by_cases h : n ≤ ls.length
  · rw [Nat.min_eq_left h, List.take_of_length_le (by rw [List.length_drop]; exact Nat.le_refl _)]
  · rw [Nat.min_eq_right (by omega), List.drop_length, List.drop_of_length_le (by omega)]; simp
/-! turns -/
def trn (k : Int) (p : Pt) : Pt :=
  let x' := if 4 ≤ k then -p.1 else p.1
  if k % 4 = 1 then (-p.2, x') else if k % 4 = 2 then (-x', -p.2) else if k % 4 = 3 then (p.2, -x') else (x', p.2)
def rot (q : Nat) (l : Lt) : Lt := match q with
  | 0 => l
  | 1 => l + 1
  | 2 => l + 2
  | _ => l + 3
def mir (l : Lt) : Lt := match l with
  | 0 => 2
  | 1 => 1
  | 2 => 0
  | 3 => 3
def tl (k : Int) (l : Lt) : Lt := rot (k % 4).toNat (if 4 ≤ k then mir l else l)
theorem k8 {k : Int} (h0 : 0 ≤ k) (h1 : k < 8) : k = 0 ∨ k = 1 ∨ k = 2 ∨ k = 3 ∨ k = 4 ∨ k = 5 ∨ k = 6 ∨ k = 7 := by omega
theorem step_tl {k : Int} (h0 : 0 ≤ k) (h1 : k < 8) (l : Lt) : step (tl k l) = trn k (step l) := by
  rcases k8 h0 h1 with rfl | rfl | rfl | rfl | rfl | rfl | rfl | rfl <;> (match l with | 0 => rfl | 1 => rfl | 2 => rfl | 3 => rfl)
theorem trn_adp (k : Int) (s p : Pt) : trn k (adp s p) = adp (trn k s) (trn k p) := by
  unfold trn adp
  dsimp only
  split <;> split <;> (try split) <;> (try split) <;> (apply Prod.ext <;> dsimp only <;> omega)
theorem endp_tl {k : Int} (h0 : 0 ≤ k) (h1 : k < 8) (c : Pt) (ls : List Lt) : endp (trn k c) (ls.map (tl k)) = trn k (endp c ls) := by
  induction ls generalizing c with
  | nil => rfl
  | cons l ls ih =>
    show endp (adp (step (tl k l)) (trn k c)) (ls.map (tl k)) = trn k (endp (adp (step l) c) ls)
    rw [step_tl h0 h1, ← trn_adp, ih]
theorem path_tl {k : Int} (h0 : 0 ≤ k) (h1 : k < 8) (c : Pt) (ls : List Lt) : path (trn k c) (ls.map (tl k)) = (path c ls).map (trn k) := by
  unfold path
  rw [List.length_map, List.map_map]
  refine List.map_congr_left fun i _ => ?_
  show endp (trn k c) ((ls.map (tl k)).take i) = trn k (endp c (ls.take i))
  rw [← List.map_take, endp_tl h0 h1]
theorem step_only (m : Lt) : (([0, 1, 2, 3] : List Lt).filter fun a => decide (step a = step m)) = [m] := by
  match m with
  | 0 => rfl
  | 1 => rfl
  | 2 => rfl
  | 3 => rfl
theorem endp_way (c : Pt) (ls : List Lt) : endp c ls = adp (endp (0, 0) ls) c := by
  induction ls generalizing c with
  | nil => exact Prod.ext (by show c.1 = c.1 + 0; omega) (by show c.2 = c.2 + 0; omega)
  | cons l ls ih =>
    show endp (adp (step l) c) ls = adp (endp (adp (step l) (0, 0)) ls) c
    rw [ih, ih (adp (step l) (0, 0))]
    exact Prod.ext (by show c.1 + (step l).1 + _ = c.1 + (0 + (step l).1 + _); omega) (by show c.2 + (step l).2 + _ = c.2 + (0 + (step l).2 + _); omega)
theorem g_eqKP {a b c d : Int} {H : Hp3} {Q : VK3} (q : Q (.bl (decide ((a, b) = (c, d)))) H) : r3eq (.ktup [.int a, .int b]) (.tup [.int c, .int d]) H Q := by
  have e : (PyData.eqvAll [.int a, .int b] [.int c, .int d]) = decide ((a, b) = (c, d)) := by
    simp only [PyData.eqvAll, PyData.eqv, Bool.and_true, Prod.mk.injEq, Bool.decide_and]; rfl
  simp only [r3eq, pyH, pyN, mapO, Option.map_some, PyData.eqv, e]; exact q
/-- begun at a place -/
def beg (ls : List Lt) (n : Nat) : List Lt := ls.drop n ++ ls.take n
theorem beg_len (ls : List Lt) (n : Nat) (h : n ≤ ls.length) : (beg ls n).length = ls.length := by unfold beg; rw [List.length_append, List.length_drop, List.length_take]; omega
theorem endp_beg (ls : List Lt) (n : Nat) : endp (0, 0) (beg ls n) = endp (0, 0) ls := by
  conv => rhs; rw [← List.take_append_drop n ls]
  unfold beg
  rw [endp_app, endp_app, endp_way, endp_way (endp (0, 0) (ls.take n))]
  exact Prod.ext (Int.add_comm _ _) (Int.add_comm _ _)
theorem g_lenW {ls : List Lt} {H : Hp3} {Q : VK3} (hl : ls.length ≤ 1000) (q : Q (.int ls.length) H) : r3len [.str (wStr ls)] H Q := ⟨wStr_le ls hl, by rw [wStr_len]; exact q⟩
theorem path_head (c : Pt) (ls : List Lt) : atI ((path c ls).map prP) 0 = some (.tup [.int c.1, .int c.2]) := by
  unfold atI ixN
  rw [List.length_map, path_len, if_pos (by omega), if_pos (by omega), Option.bind_some, List.getElem?_map, path_get, if_pos (by omega)]
  rfl
/-! ### the border of a grown piece is one round -/
def stp : Nat → Pt
  | 0 => (1, 0)
  | 1 => (0, 1)
  | 2 => (-1, 0)
  | _ => (0, -1)
def lft (p : Pt) : Nat → Pt
  | 0 => (p.1, p.2)
  | 1 => (p.1 - 1, p.2)
  | 2 => (p.1 - 1, p.2 - 1)
  | _ => (p.1, p.2 - 1)
def rgt (p : Pt) : Nat → Pt
  | 0 => (p.1, p.2 - 1)
  | 1 => (p.1, p.2)
  | 2 => (p.1 - 1, p.2)
  | _ => (p.1 - 1, p.2 - 1)
def go1 (p : Pt) (d : Nat) : Pt := (p.1 + (stp d).1, p.2 + (stp d).2)
structure Edge (S : List Pt) (p : Pt) (d : Nat) : Prop where
  lt : d < 4
  l : lft p d ∈ S
  r : rgt p d ∉ S
inductive Rch (R : Pt → Pt → Prop) (p : Pt) : Pt → Prop where
  | refl : Rch R p p
  | step {q r : Pt} : Rch R p q → R q r → Rch R p r
theorem Rch.trans {R : Pt → Pt → Prop} {p q r : Pt} (h : Rch R p q) (g : Rch R q r) : Rch R p r := by
  induction g with
  | refl => exact h
  | step _ s ih => exact .step ih s
theorem Rch.one {R : Pt → Pt → Prop} {p q : Pt} (h : R p q) : Rch R p q := .step .refl h
def RS (S : List Pt) (p q : Pt) : Prop := ∃ d, Edge S p d ∧ q = go1 p d
def Crn (S : List Pt) (p : Pt) : Prop := ∃ d, Edge S p d
/-- a path a .. b swapped for another -/
theorem swap {R R' : Pt → Pt → Prop} {C C' I : Pt → Prop} {a b : Pt} (h1 : Rch R' a b) (h2 : ∀ p q, R p q → (R' p q ∧ ¬ I p ∧ ¬ I q) ∨ ((p = a ∨ I p) ∧ (q = b ∨ I q))) (ha : ¬ I a) (hb : ¬ I b)
    (h4 : ∀ q, C' q → ¬ I q ∧ (C q ∨ (Rch R' a q ∧ Rch R' q b))) (ca : C a) (cb : C b) (hS : ∀ p q, C p → C q → Rch R p q) : ∀ p q, C' p → C' q → Rch R' p q := by
  have A : ∀ p q, ¬ I p → Rch R p q → (¬ I q ∧ Rch R' p q) ∨ (I q ∧ Rch R' p a) := by
    intro p q hp h
    induction h with
    | refl => exact .inl ⟨hp, .refl⟩
    | @step q r _ s ih =>
      rcases h2 q r s with ⟨s1, s2, s3⟩ | ⟨s1, s2⟩
      · rcases ih with ⟨_, i⟩ | ⟨i, _⟩
        · exact .inl ⟨s3, .step i s1⟩
        · exact absurd i s2
      · have pa : Rch R' p a := by
          rcases ih with ⟨i1, i2⟩ | ⟨_, i⟩
          · rcases s1 with rfl | s1
            · exact i2
            · exact absurd s1 i1
          · exact i
        rcases s2 with rfl | s2
        · exact .inl ⟨hb, pa.trans h1⟩
        · exact .inr ⟨s2, pa⟩
  have B : ∀ p q, C p → C q → ¬ I p → ¬ I q → Rch R' p q := fun p q cp cq np nq => by
    rcases A p q np (hS p q cp cq) with z | z
    · exact z.2
    · exact absurd z.1 nq
  intro p q cp cq
  obtain ⟨np, zp⟩ := h4 p cp
  obtain ⟨nq, zq⟩ := h4 q cq
  have D : ∀ p, C p → ¬ I p → Rch R' p q := fun p cp np => by
    rcases zq with zq | zq
    · exact B p q cp zq np nq
    · exact (B p a cp ca np ha).trans zq.1
  rcases zp with zp | zp
  · exact D p zp np
  · exact zp.2.trans (D b cb hb)
/-! round a cell c: its neighbours, its corners, the cells over its corners; j from the east on, to the left -/
def nx4 : Nat → Nat
  | 0 => 1
  | 1 => 2
  | 2 => 3
  | _ => 0
def nb (c : Pt) (j : Nat) : Pt := (c.1 + (stp j).1, c.2 + (stp j).2)
def crn (c : Pt) : Nat → Pt
  | 0 => (c.1 + 1, c.2)
  | 1 => (c.1 + 1, c.2 + 1)
  | 2 => (c.1, c.2 + 1)
  | _ => (c.1, c.2)
def dgl (c : Pt) : Nat → Pt
  | 0 => (c.1 + 1, c.2 + 1)
  | 1 => (c.1 - 1, c.2 + 1)
  | 2 => (c.1 - 1, c.2 - 1)
  | _ => (c.1 + 1, c.2 - 1)
theorem stp0 : stp 0 = (1, 0) := rfl
theorem stp1 : stp 1 = (0, 1) := rfl
theorem stp2 : stp 2 = (-1, 0) := rfl
theorem stp3 : stp 3 = (0, -1) := rfl
theorem nx40 : nx4 0 = 1 := rfl
theorem nx41 : nx4 1 = 2 := rfl
theorem nx42 : nx4 2 = 3 := rfl
theorem nx43 : nx4 3 = 0 := rfl
theorem lft0 (p : Pt) : lft p 0 = (p.1, p.2) := rfl
theorem lft1 (p : Pt) : lft p 1 = (p.1 - 1, p.2) := rfl
theorem lft2 (p : Pt) : lft p 2 = (p.1 - 1, p.2 - 1) := rfl
theorem lft3 (p : Pt) : lft p 3 = (p.1, p.2 - 1) := rfl
theorem rgt0 (p : Pt) : rgt p 0 = (p.1, p.2 - 1) := rfl
theorem rgt1 (p : Pt) : rgt p 1 = (p.1, p.2) := rfl
theorem rgt2 (p : Pt) : rgt p 2 = (p.1 - 1, p.2) := rfl
theorem rgt3 (p : Pt) : rgt p 3 = (p.1 - 1, p.2 - 1) := rfl
theorem crn0 (p : Pt) : crn p 0 = (p.1 + 1, p.2) := rfl
theorem crn1 (p : Pt) : crn p 1 = (p.1 + 1, p.2 + 1) := rfl
theorem crn2 (p : Pt) : crn p 2 = (p.1, p.2 + 1) := rfl
theorem crn3 (p : Pt) : crn p 3 = (p.1, p.2) := rfl
theorem dgl0 (p : Pt) : dgl p 0 = (p.1 + 1, p.2 + 1) := rfl
theorem dgl1 (p : Pt) : dgl p 1 = (p.1 - 1, p.2 + 1) := rfl
theorem dgl2 (p : Pt) : dgl p 2 = (p.1 - 1, p.2 - 1) := rfl
theorem dgl3 (p : Pt) : dgl p 3 = (p.1 + 1, p.2 - 1) := rfl
local macro_rules | `(tactic| walk_at "pp") => `(tactic| (refine Prod.ext ?_ ?_ <;> (simp only [stp0, stp1, stp2, stp3, nx40, nx41, nx42, nx43, lft0, lft1, lft2, lft3, rgt0, rgt1, rgt2, rgt3, crn0, crn1, crn2, crn3, dgl0, dgl1, dgl2, dgl3, nb, go1]; try omega)))
theorem c4 {j : Nat} (h : j < 4) : j = 0 ∨ j = 1 ∨ j = 2 ∨ j = 3 := by omega
section
variable {S T : List Pt} {c p : Pt} {d j : Nat}
theorem nx4_lt : nx4 j < 4 := by unfold nx4; split <;> omega
theorem rgt_c (hd : d < 4) (h : rgt p d = c) : ∃ j, j < 4 ∧ p = crn c (nx4 j) ∧ go1 p d = crn c j ∧ lft p d = nb c j := by
  subst h
  rcases c4 hd with rfl | rfl | rfl | rfl
  · exact ⟨1, by omega, by walk_at "pp", by walk_at "pp", by walk_at "pp"⟩
  · exact ⟨2, by omega, by walk_at "pp", by walk_at "pp", by walk_at "pp"⟩
  · exact ⟨3, by omega, by walk_at "pp", by walk_at "pp", by walk_at "pp"⟩
  · exact ⟨0, by omega, by walk_at "pp", by walk_at "pp", by walk_at "pp"⟩
theorem lft_c (hd : d < 4) (h : lft p d = c) : ∃ j, j < 4 ∧ p = crn c j ∧ go1 p d = crn c (nx4 j) ∧ rgt p d = nb c j := by
  subst h
  rcases c4 hd with rfl | rfl | rfl | rfl
  · exact ⟨3, by omega, by walk_at "pp", by walk_at "pp", by walk_at "pp"⟩
  · exact ⟨0, by omega, by walk_at "pp", by walk_at "pp", by walk_at "pp"⟩
  · exact ⟨1, by omega, by walk_at "pp", by walk_at "pp", by walk_at "pp"⟩
  · exact ⟨2, by omega, by walk_at "pp", by walk_at "pp", by walk_at "pp"⟩
/-- the side of c towards its neighbour j, gone from either -/
theorem side_in (hj : j < 4) : ∃ d, d < 4 ∧ lft (crn c j) d = c ∧ rgt (crn c j) d = nb c j ∧ go1 (crn c j) d = crn c (nx4 j) := by
  rcases c4 hj with rfl | rfl | rfl | rfl
  · exact ⟨1, by omega, by walk_at "pp", by walk_at "pp", by walk_at "pp"⟩
  · exact ⟨2, by omega, by walk_at "pp", by walk_at "pp", by walk_at "pp"⟩
  · exact ⟨3, by omega, by walk_at "pp", by walk_at "pp", by walk_at "pp"⟩
  · exact ⟨0, by omega, by walk_at "pp", by walk_at "pp", by walk_at "pp"⟩
theorem side_out (hj : j < 4) : ∃ d, d < 4 ∧ lft (crn c (nx4 j)) d = nb c j ∧ rgt (crn c (nx4 j)) d = c ∧ go1 (crn c (nx4 j)) d = crn c j := by
  rcases c4 hj with rfl | rfl | rfl | rfl
  · exact ⟨3, by omega, by walk_at "pp", by walk_at "pp", by walk_at "pp"⟩
  · exact ⟨0, by omega, by walk_at "pp", by walk_at "pp", by walk_at "pp"⟩
  · exact ⟨1, by omega, by walk_at "pp", by walk_at "pp", by walk_at "pp"⟩
  · exact ⟨2, by omega, by walk_at "pp", by walk_at "pp", by walk_at "pp"⟩
/-- the four cells that meet at a corner -/
def Meet (p q : Pt) : Prop := q = (p.1, p.2) ∨ q = (p.1 - 1, p.2) ∨ q = (p.1 - 1, p.2 - 1) ∨ q = (p.1, p.2 - 1)
theorem meet_rgt (hd : d < 4) : Meet p (rgt p d) := by
  rcases c4 hd with rfl | rfl | rfl | rfl
  · exact .inr (.inr (.inr rfl))
  · exact .inl rfl
  · exact .inr (.inl rfl)
  · exact .inr (.inr (.inl rfl))
theorem meet_go (hd : d < 4) : Meet (go1 p d) (rgt p d) := by
  rcases c4 hd with rfl | rfl | rfl | rfl
  · exact .inr (.inr (.inl (by walk_at "pp")))
  · exact .inr (.inr (.inr (by walk_at "pp")))
  · exact .inl (by walk_at "pp")
  · exact .inr (.inl (by walk_at "pp"))
theorem meet_crn (hj : j < 4) {q : Pt} (h : Meet (crn c (nx4 j)) q) : q = c ∨ q = nb c j ∨ q = nb c (nx4 j) ∨ q = dgl c j := by
  rcases c4 hj with rfl | rfl | rfl | rfl
  · rcases h with rfl | rfl | rfl | rfl
    · exact .inr (.inr (.inr (by walk_at "pp")))
    · exact .inr (.inr (.inl (by walk_at "pp")))
    · exact .inl (by walk_at "pp")
    · exact .inr (.inl (by walk_at "pp"))
  · rcases h with rfl | rfl | rfl | rfl
    · exact .inr (.inl (by walk_at "pp"))
    · exact .inr (.inr (.inr (by walk_at "pp")))
    · exact .inr (.inr (.inl (by walk_at "pp")))
    · exact .inl (by walk_at "pp")
  · rcases h with rfl | rfl | rfl | rfl
    · exact .inl (by walk_at "pp")
    · exact .inr (.inl (by walk_at "pp"))
    · exact .inr (.inr (.inr (by walk_at "pp")))
    · exact .inr (.inr (.inl (by walk_at "pp")))
  · rcases h with rfl | rfl | rfl | rfl
    · exact .inr (.inr (.inl (by walk_at "pp")))
    · exact .inl (by walk_at "pp")
    · exact .inr (.inl (by walk_at "pp"))
    · exact .inr (.inr (.inr (by walk_at "pp")))
theorem crn_inj {i : Nat} (hi : i < 4) (hj : j < 4) (h : crn c i = crn c j) : i = j := by
  have h1 := congrArg Prod.fst h
  have h2 := congrArg Prod.snd h
  rcases c4 hi with rfl | rfl | rfl | rfl <;> rcases c4 hj with rfl | rfl | rfl | rfl <;> simp only [crn0, crn1, crn2, crn3] at h1 h2 <;> omega
end
section
variable {S T : List Pt} {c p : Pt} {d j : Nat}
theorem crn_mixed {u v : Pt} (hu : Meet p u) (hv : Meet p v) (iu : u ∈ S) (iv : v ∉ S) : Crn S p := by
  refine Classical.byContradiction fun h => ?_
  have e0 : (p.1, p.2) ∈ S → (p.1, p.2 - 1) ∈ S := fun z => Classical.byContradiction fun y => h ⟨0, by omega, z, y⟩
  have e1 : (p.1 - 1, p.2) ∈ S → (p.1, p.2) ∈ S := fun z => Classical.byContradiction fun y => h ⟨1, by omega, z, y⟩
  have e2 : (p.1 - 1, p.2 - 1) ∈ S → (p.1 - 1, p.2) ∈ S := fun z => Classical.byContradiction fun y => h ⟨2, by omega, z, y⟩
  have e3 : (p.1, p.2 - 1) ∈ S → (p.1 - 1, p.2 - 1) ∈ S := fun z => Classical.byContradiction fun y => h ⟨3, by omega, z, y⟩
  have all : (p.1, p.2) ∈ S := by
    rcases hu with rfl | rfl | rfl | rfl
    · exact iu
    · exact e1 iu
    · exact e1 (e2 iu)
    · exact e1 (e2 (e3 iu))
  rcases hv with rfl | rfl | rfl | rfl
  · exact iv all
  · exact iv (e2 (e3 (e0 all)))
  · exact iv (e3 (e0 all))
  · exact iv (e0 all)
def Dg (S : List Pt) : Prop := ∀ p : Pt, ¬ ((p.1, p.2) ∈ S ∧ (p.1 - 1, p.2 - 1) ∈ S ∧ (p.1 - 1, p.2) ∉ S ∧ (p.1, p.2 - 1) ∉ S) ∧ ¬ ((p.1 - 1, p.2) ∈ S ∧ (p.1, p.2 - 1) ∈ S ∧ (p.1, p.2) ∉ S ∧ (p.1 - 1, p.2 - 1) ∉ S)
theorem edge_one (h : Dg S) {e : Nat} (a : Edge S p d) (b : Edge S p e) : d = e := by
  obtain ⟨h1, h2⟩ := h p
  obtain ⟨a0, a1, a2⟩ := a
  obtain ⟨b0, b1, b2⟩ := b
  rcases c4 a0 with rfl | rfl | rfl | rfl <;> rcases c4 b0 with rfl | rfl | rfl | rfl
  · rfl
  · exact absurd a1 b2
  · exact absurd ⟨a1, b1, b2, a2⟩ h1
  · exact absurd b1 a2
  · exact absurd b1 a2
  · rfl
  · exact absurd a1 b2
  · exact absurd ⟨a1, b1, a2, b2⟩ h2
  · exact absurd ⟨b1, a1, a2, b2⟩ h1
  · exact absurd b1 a2
  · rfl
  · exact absurd a1 b2
  · exact absurd a1 b2
  · exact absurd ⟨b1, a1, b2, a2⟩ h2
  · exact absurd b1 a2
  · rfl
theorem crn_go (e : Edge S p d) : Crn S (go1 p d) := by
  refine crn_mixed (u := lft p d) (v := rgt p d) ?_ (meet_go e.lt) e.l e.r
  rcases c4 e.lt with rfl | rfl | rfl | rfl
  · exact .inr (.inl (by walk_at "pp"))
  · exact .inr (.inr (.inl (by walk_at "pp")))
  · exact .inr (.inr (.inr (by walk_at "pp")))
  · exact .inl (by walk_at "pp")
theorem meet_c (hj : j < 4) : Meet (crn c j) c := by
  rcases c4 hj with rfl | rfl | rfl | rfl
  · exact .inr (.inl (by walk_at "pp"))
  · exact .inr (.inr (.inl (by walk_at "pp")))
  · exact .inr (.inr (.inr (by walk_at "pp")))
  · exact .inl (by walk_at "pp")
theorem meet_nb (hj : j < 4) : Meet (crn c (nx4 j)) (nb c j) := by
  rcases c4 hj with rfl | rfl | rfl | rfl
  · exact .inr (.inr (.inr (by walk_at "pp")))
  · exact .inl (by walk_at "pp")
  · exact .inr (.inl (by walk_at "pp"))
  · exact .inr (.inr (.inl (by walk_at "pp")))
theorem meet_nb' (hj : j < 4) : Meet (crn c (nx4 j)) (nb c (nx4 j)) := by
  rcases c4 hj with rfl | rfl | rfl | rfl
  · exact .inr (.inl (by walk_at "pp"))
  · exact .inr (.inr (.inl (by walk_at "pp")))
  · exact .inr (.inr (.inr (by walk_at "pp")))
  · exact .inl (by walk_at "pp")
theorem dg_full (h : Dg S) (hj : j < 4) (h1 : nb c j ∈ S) (h2 : nb c (nx4 j) ∈ S) (hc : c ∉ S) : dgl c j ∈ S := by
  refine Classical.byContradiction fun z => ?_
  obtain ⟨g1, g2⟩ := h (crn c (nx4 j))
  rcases c4 hj with rfl | rfl | rfl | rfl
  · refine g2 ⟨?_, ?_, ?_, ?_⟩
    · rw [show ((crn c (nx4 0)).1 - 1, (crn c (nx4 0)).2) = nb c (nx4 0) from by walk_at "pp"]; exact h2
    · rw [show ((crn c (nx4 0)).1, (crn c (nx4 0)).2 - 1) = nb c 0 from by walk_at "pp"]; exact h1
    · rw [show ((crn c (nx4 0)).1, (crn c (nx4 0)).2) = dgl c 0 from by walk_at "pp"]; exact z
    · rw [show ((crn c (nx4 0)).1 - 1, (crn c (nx4 0)).2 - 1) = c from by walk_at "pp"]; exact hc
  · refine g1 ⟨?_, ?_, ?_, ?_⟩
    · rw [show ((crn c (nx4 1)).1, (crn c (nx4 1)).2) = nb c 1 from by walk_at "pp"]; exact h1
    · rw [show ((crn c (nx4 1)).1 - 1, (crn c (nx4 1)).2 - 1) = nb c (nx4 1) from by walk_at "pp"]; exact h2
    · rw [show ((crn c (nx4 1)).1 - 1, (crn c (nx4 1)).2) = dgl c 1 from by walk_at "pp"]; exact z
    · rw [show ((crn c (nx4 1)).1, (crn c (nx4 1)).2 - 1) = c from by walk_at "pp"]; exact hc
  · refine g2 ⟨?_, ?_, ?_, ?_⟩
    · rw [show ((crn c (nx4 2)).1 - 1, (crn c (nx4 2)).2) = nb c 2 from by walk_at "pp"]; exact h1
    · rw [show ((crn c (nx4 2)).1, (crn c (nx4 2)).2 - 1) = nb c (nx4 2) from by walk_at "pp"]; exact h2
    · rw [show ((crn c (nx4 2)).1, (crn c (nx4 2)).2) = c from by walk_at "pp"]; exact hc
    · rw [show ((crn c (nx4 2)).1 - 1, (crn c (nx4 2)).2 - 1) = dgl c 2 from by walk_at "pp"]; exact z
  · refine g1 ⟨?_, ?_, ?_, ?_⟩
    · rw [show ((crn c (nx4 3)).1, (crn c (nx4 3)).2) = nb c (nx4 3) from by walk_at "pp"]; exact h2
    · rw [show ((crn c (nx4 3)).1 - 1, (crn c (nx4 3)).2 - 1) = nb c 3 from by walk_at "pp"]; exact h1
    · rw [show ((crn c (nx4 3)).1 - 1, (crn c (nx4 3)).2) = c from by walk_at "pp"]; exact hc
    · rw [show ((crn c (nx4 3)).1, (crn c (nx4 3)).2 - 1) = dgl c 3 from by walk_at "pp"]; exact z
theorem nx4_inj {i : Nat} (hi : i < 4) (hj : j < 4) (h : nx4 i = nx4 j) : i = j := by
  rcases c4 hi with rfl | rfl | rfl | rfl <;> rcases c4 hj with rfl | rfl | rfl | rfl <;> first | rfl | cases h
theorem nx4_4 (hj : j < 4) : nx4 (nx4 (nx4 (nx4 j))) = j := by
  rcases c4 hj with rfl | rfl | rfl | rfl <;> rfl
end
/-- the border is one round -/
structure One (S : List Pt) : Prop where
  dg : Dg S
  all : ∀ p q, Crn S p → Crn S q → Rch (RS S) p q
section
variable {S T : List Pt} {c : Pt} {ja jb : Nat}
theorem one_step (h : One S) (hT : ∀ x, x ∈ T ↔ x ∈ S ∨ x = c) (hc : c ∉ S) (hja : ja < 4) (hjb : jb < 4) (a1 : nb c ja ∈ S) (a2 : nb c (nx4 ja) ∉ S) (b1 : nb c jb ∉ S) (b2 : nb c (nx4 jb) ∈ S)
    (ua : ∀ j, j < 4 → nb c j ∈ S → nb c (nx4 j) ∉ S → j = ja) (ub : ∀ j, j < 4 → nb c j ∉ S → nb c (nx4 j) ∈ S → j = jb) : ∀ p q, Crn T p → Crn T q → Rch (RS T) p q := by
  have pred : ∀ j, j < 4 → ∃ i, i < 4 ∧ nx4 i = j := fun j hj => ⟨nx4 (nx4 (nx4 j)), nx4_lt, nx4_4 hj⟩
  have cT : c ∈ T := (hT c).mpr (.inr rfl)
  have full : ∀ j, j < 4 → nb c j ∈ S → nb c (nx4 j) ∈ S → ∀ q, Meet (crn c (nx4 j)) q → q ∈ T := by
    intro j hj h1 h2 q hq
    rcases meet_crn hj hq with rfl | rfl | rfl | rfl
    · exact cT
    · exact (hT _).mpr (.inl h1)
    · exact (hT _).mpr (.inl h2)
    · exact (hT _).mpr (.inl (dg_full h.dg hj h1 h2 hc))
  have nne : ∀ j, j < 4 → nb c j ≠ c := by
    intro j hj e
    have e1 := congrArg Prod.fst e
    have e2 := congrArg Prod.snd e
    rcases c4 hj with rfl | rfl | rfl | rfl <;> simp only [nb, stp0, stp1, stp2, stp3] at e1 e2 <;> omega
  have new : ∀ j, j < 4 → nb c j ∉ S → RS T (crn c j) (crn c (nx4 j)) := by
    intro j hj h1
    obtain ⟨d, hd, e1, e2, e3⟩ := side_in (c := c) hj
    refine ⟨d, ⟨hd, by rw [e1]; exact cT, ?_⟩, e3.symm⟩
    rw [e2]
    intro z
    rcases (hT _).mp z with z | z
    · exact h1 z
    · exact nne j hj z
  have fwd : ∀ j, j < 4 → nb c j ∉ S → Rch (RS T) (crn c j) (crn c (nx4 jb)) := by
    intro j hj h1
    have r1 := new j hj h1
    by_cases g1 : nb c (nx4 j) ∈ S
    · have := ub j hj h1 g1; subst this; exact .one r1
    have r2 := new _ nx4_lt g1
    by_cases g2 : nb c (nx4 (nx4 j)) ∈ S
    · have := ub _ nx4_lt g1 g2; subst this; exact .step (.one r1) r2
    have r3 := new _ nx4_lt g2
    by_cases g3 : nb c (nx4 (nx4 (nx4 j))) ∈ S
    · have := ub _ nx4_lt g2 g3; subst this; exact .step (.step (.one r1) r2) r3
    exfalso
    have : ja = j ∨ ja = nx4 j ∨ ja = nx4 (nx4 j) ∨ ja = nx4 (nx4 (nx4 j)) := by
      rcases c4 hj with rfl | rfl | rfl | rfl <;> rcases c4 hja with rfl | rfl | rfl | rfl <;> decide
    rcases this with z | z | z | z <;> rw [z] at a1
    · exact h1 a1
    · exact g1 a1
    · exact g2 a1
    · exact g3 a1
  have bwd : ∀ j, j < 4 → nb c j ∉ S → Rch (RS T) (crn c (nx4 ja)) (crn c j) := by
    intro j hj h1
    obtain ⟨i1, l1, rfl⟩ := pred j hj
    by_cases g1 : nb c i1 ∈ S
    · have := ua i1 l1 g1 h1; subst this; exact .refl
    have r1 := new i1 l1 g1
    obtain ⟨i2, l2, rfl⟩ := pred i1 l1
    by_cases g2 : nb c i2 ∈ S
    · have := ua i2 l2 g2 g1; subst this; exact .one r1
    have r2 := new i2 l2 g2
    obtain ⟨i3, l3, rfl⟩ := pred i2 l2
    by_cases g3 : nb c i3 ∈ S
    · have := ua i3 l3 g3 g2; subst this; exact .step (.one r2) r1
    exfalso
    have : ja = i3 ∨ ja = nx4 i3 ∨ ja = nx4 (nx4 i3) ∨ ja = nx4 (nx4 (nx4 i3)) := by
      rcases c4 l3 with rfl | rfl | rfl | rfl <;> rcases c4 hja with rfl | rfl | rfl | rfl <;> decide
    rcases this with z | z | z | z <;> rw [z] at a1
    · exact g3 a1
    · exact g2 a1
    · exact g1 a1
    · exact h1 a1
  refine swap (R := RS S) (C := Crn S) (I := fun q => ∃ j, j < 4 ∧ q = crn c (nx4 j) ∧ nb c j ∈ S ∧ nb c (nx4 j) ∈ S) (a := crn c (nx4 ja)) (b := crn c (nx4 jb)) (fwd _ nx4_lt a2) ?_ ?_ ?_ ?_ ?_ ?_ h.all
  · rintro p q ⟨d, e, rfl⟩
    by_cases hr : rgt p d = c
    · refine .inr ?_
      obtain ⟨j, hj, h1, h2, h3⟩ := rgt_c e.lt hr
      have hjS : nb c j ∈ S := by rw [← h3]; exact e.l
      constructor
      · by_cases g : nb c (nx4 j) ∈ S
        · exact .inr ⟨j, hj, h1, hjS, g⟩
        · have := ua j hj hjS g; subst this; exact .inl h1
      · obtain ⟨i, hi, rfl⟩ := pred j hj
        by_cases g : nb c i ∈ S
        · exact .inr ⟨i, hi, h2, g, hjS⟩
        · have := ub i hi g hjS; subst this; exact .inl h2
    · have nT : rgt p d ∉ T := fun z => by
        rcases (hT _).mp z with z | z
        · exact e.r z
        · exact hr z
      refine .inl ⟨⟨d, ⟨e.lt, (hT _).mpr (.inl e.l), nT⟩, rfl⟩, ?_, ?_⟩
      · rintro ⟨j, hj, rfl, h1, h2⟩
        exact nT (full j hj h1 h2 _ (meet_rgt e.lt))
      · rintro ⟨j, hj, e1, h1, h2⟩
        exact nT (full j hj h1 h2 _ (by rw [← e1]; exact meet_go e.lt))
  · rintro ⟨j, hj, e, h1, h2⟩
    have := nx4_inj hja hj (crn_inj nx4_lt nx4_lt e); subst this
    exact a2 h2
  · rintro ⟨j, hj, e, h1, h2⟩
    have := nx4_inj hjb hj (crn_inj nx4_lt nx4_lt e); subst this
    exact b1 h1
  · rintro q ⟨d, e⟩
    refine ⟨?_, ?_⟩
    · rintro ⟨j, hj, rfl, h1, h2⟩
      exact e.r (full j hj h1 h2 _ (meet_rgt e.lt))
    · rcases (hT _).mp e.l with z | z
      · exact .inl ⟨d, e.lt, z, fun y => e.r ((hT _).mpr (.inl y))⟩
      · obtain ⟨j, hj, rfl, h2, h3⟩ := lft_c e.lt z
        have g : nb c j ∉ S := fun y => e.r (by rw [h3]; exact (hT _).mpr (.inl y))
        exact .inr ⟨bwd j hj g, fwd j hj g⟩
  · exact crn_mixed (meet_nb hja) (meet_c nx4_lt) a1 hc
  · exact crn_mixed (meet_nb' hjb) (meet_c nx4_lt) b2 hc
end
section
variable {S T : List Pt} {p q : Pt} {d : Nat}
theorem Edge.congr (h : ∀ x, x ∈ S ↔ x ∈ T) (e : Edge S p d) : Edge T p d := ⟨e.lt, (h _).mp e.l, fun z => e.r ((h _).mpr z)⟩
theorem Rch.mono {R R' : Pt → Pt → Prop} (h : ∀ p q, R p q → R' p q) (r : Rch R p q) : Rch R' p q := by
  induction r with
  | refl => exact .refl
  | step _ s ih => exact .step ih (h _ _ s)
theorem One.congr (h : ∀ x, x ∈ S ↔ x ∈ T) (o : One S) : One T := by
  refine ⟨fun p => ?_, fun p q ⟨d, e⟩ ⟨d', e'⟩ => ?_⟩
  · obtain ⟨g1, g2⟩ := o.dg p
    rw [h, h, h, h] at g1 g2
    exact ⟨g1, g2⟩
  · exact (o.all p q ⟨d, e.congr fun x => (h x).symm⟩ ⟨d', e'.congr fun x => (h x).symm⟩).mono fun a b ⟨d, e, z⟩ => ⟨d, e.congr h, z⟩
theorem one_one : One [((0, 0) : Pt)] := by
  have e0 : Edge [((0, 0) : Pt)] (0, 0) 0 := ⟨by omega, by simp [lft0], by simp [rgt0]⟩
  have e1 : Edge [((0, 0) : Pt)] (1, 0) 1 := ⟨by omega, by simp [lft1], by simp [rgt1]⟩
  have e2 : Edge [((0, 0) : Pt)] (1, 1) 2 := ⟨by omega, by simp [lft2], by simp [rgt2]⟩
  have e3 : Edge [((0, 0) : Pt)] (0, 1) 3 := ⟨by omega, by simp [lft3], by simp [rgt3]⟩
  have s0 : RS [((0, 0) : Pt)] (0, 0) (1, 0) := ⟨0, e0, rfl⟩
  have s1 : RS [((0, 0) : Pt)] (1, 0) (1, 1) := ⟨1, e1, rfl⟩
  have s2 : RS [((0, 0) : Pt)] (1, 1) (0, 1) := ⟨2, e2, rfl⟩
  have s3 : RS [((0, 0) : Pt)] (0, 1) (0, 0) := ⟨3, e3, rfl⟩
  have four : ∀ p, Crn [((0, 0) : Pt)] p → Rch (RS [((0, 0) : Pt)]) p (0, 0) ∧ Rch (RS [((0, 0) : Pt)]) (0, 0) p := by
    rintro p ⟨d, e⟩
    have el := List.mem_singleton.mp e.l
    obtain ⟨p1, p2⟩ := p
    rcases c4 e.lt with rfl | rfl | rfl | rfl
    · simp only [lft0, Prod.mk.injEq] at el
      obtain ⟨rfl, rfl⟩ := el
      exact ⟨.refl, .refl⟩
    · simp only [lft1, Prod.mk.injEq] at el
      have : p1 = 1 := by omega
      subst this
      obtain ⟨_, rfl⟩ := el
      exact ⟨.step (.step (.one s1) s2) s3, .one s0⟩
    · simp only [lft2, Prod.mk.injEq] at el
      have a1 : p1 = 1 := by omega
      have a2 : p2 = 1 := by omega
      subst a1 a2
      exact ⟨.step (.one s2) s3, .step (.one s0) s1⟩
    · simp only [lft3, Prod.mk.injEq] at el
      have a2 : p2 = 1 := by omega
      subst a2
      obtain ⟨rfl, _⟩ := el
      exact ⟨.one s3, .step (.step (.one s0) s1) s2⟩
  refine ⟨fun p => ?_, fun p q hp hq => (four p hp).1.trans (four q hq).2⟩
  simp only [List.mem_singleton, Prod.mk.injEq]
  constructor
  · rintro ⟨h1, h2, _⟩; omega
  · rintro ⟨h1, h2, _⟩; omega
theorem lft_mv (s : Pt) (hd : d < 4) : lft (p.1 + s.1, p.2 + s.2) d = ((lft p d).1 + s.1, (lft p d).2 + s.2) := by
  rcases c4 hd with rfl | rfl | rfl | rfl <;> walk_at "pp"
theorem rgt_mv (s : Pt) (hd : d < 4) : rgt (p.1 + s.1, p.2 + s.2) d = ((rgt p d).1 + s.1, (rgt p d).2 + s.2) := by
  rcases c4 hd with rfl | rfl | rfl | rfl <;> walk_at "pp"
theorem go_mv (s : Pt) : go1 (p.1 + s.1, p.2 + s.2) d = ((go1 p d).1 + s.1, (go1 p d).2 + s.2) := by
  refine Prod.ext ?_ ?_ <;> simp only [go1] <;> omega
theorem mem_mvd {s : Pt} {x : Pt} : (x.1 + s.1, x.2 + s.2) ∈ S.map (fun q => (q.1 + s.1, q.2 + s.2)) ↔ x ∈ S := by
  rw [List.mem_map]
  constructor
  · rintro ⟨y, hy, e⟩
    have e1 := congrArg Prod.fst e
    have e2 := congrArg Prod.snd e
    have : y = x := Prod.ext (by dsimp only at e1; omega) (by dsimp only at e2; omega)
    rw [← this]; exact hy
  · exact fun h => ⟨x, h, rfl⟩
theorem edge_mv (s : Pt) : Edge (S.map (fun q => (q.1 + s.1, q.2 + s.2))) (p.1 + s.1, p.2 + s.2) d ↔ Edge S p d := by
  constructor
  · rintro ⟨h1, h2, h3⟩
    rw [lft_mv s h1, mem_mvd] at h2
    rw [rgt_mv s h1, mem_mvd] at h3
    exact ⟨h1, h2, h3⟩
  · rintro ⟨h1, h2, h3⟩
    refine ⟨h1, ?_, ?_⟩
    · rw [lft_mv s h1, mem_mvd]; exact h2
    · rw [rgt_mv s h1, mem_mvd]; exact h3
theorem One.mv (s : Pt) (o : One S) : One (S.map (fun q => (q.1 + s.1, q.2 + s.2))) := by
  have bk : ∀ p : Pt, p = ((p.1 - s.1) + s.1, (p.2 - s.2) + s.2) := fun p => Prod.ext (by dsimp only; omega) (by dsimp only; omega)
  refine ⟨fun p => ?_, fun p q ⟨d, e⟩ ⟨d', e'⟩ => ?_⟩
  · obtain ⟨g1, g2⟩ := o.dg (p.1 - s.1, p.2 - s.2)
    have m : ∀ a b : Int, (a, b) ∈ S.map (fun q => (q.1 + s.1, q.2 + s.2)) ↔ (a - s.1, b - s.2) ∈ S := fun a b => by rw [← mem_mvd (S := S) (s := s) (x := (a - s.1, b - s.2)), show ((a - s.1, b - s.2).1 + s.1, (a - s.1, b - s.2).2 + s.2) = (a, b) from Prod.ext (by dsimp only; omega) (by dsimp only; omega)]
    rw [m, m, m, m]
    dsimp only at g1 g2
    rw [show p.1 - 1 - s.1 = p.1 - s.1 - 1 from by omega, show p.2 - 1 - s.2 = p.2 - s.2 - 1 from by omega]
    exact ⟨g1, g2⟩
  · rw [bk p] at e ⊢
    rw [bk q] at e' ⊢
    have r := o.all _ _ ⟨d, (edge_mv s (p := (p.1 - s.1, p.2 - s.2))).mp e⟩ ⟨d', (edge_mv s (p := (q.1 - s.1, q.2 - s.2))).mp e'⟩
    have mvR : ∀ a b, Rch (RS S) a b → Rch (RS (S.map (fun q => (q.1 + s.1, q.2 + s.2)))) (a.1 + s.1, a.2 + s.2) (b.1 + s.1, b.2 + s.2) := by
      intro a b h
      induction h with
      | refl => exact .refl
      | step _ t ih =>
        obtain ⟨d, e, rfl⟩ := t
        exact .step ih ⟨d, (edge_mv s).mpr e, (go_mv s).symm⟩
    exact mvR _ _ r
/-! going round -/
def outD (S : List Pt) (p : Pt) : Nat := if lft p 0 ∈ S ∧ rgt p 0 ∉ S then 0 else if lft p 1 ∈ S ∧ rgt p 1 ∉ S then 1 else if lft p 2 ∈ S ∧ rgt p 2 ∉ S then 2 else 3
theorem outD_edge (h : Crn S p) : Edge S p (outD S p) := by
  obtain ⟨d, e⟩ := h
  unfold outD
  by_cases h0 : lft p 0 ∈ S ∧ rgt p 0 ∉ S
  · rw [if_pos h0]; exact ⟨by omega, h0.1, h0.2⟩
  rw [if_neg h0]
  by_cases h1 : lft p 1 ∈ S ∧ rgt p 1 ∉ S
  · rw [if_pos h1]; exact ⟨by omega, h1.1, h1.2⟩
  rw [if_neg h1]
  by_cases h2 : lft p 2 ∈ S ∧ rgt p 2 ∉ S
  · rw [if_pos h2]; exact ⟨by omega, h2.1, h2.2⟩
  rw [if_neg h2]
  rcases c4 e.lt with rfl | rfl | rfl | rfl
  · exact absurd ⟨e.l, e.r⟩ h0
  · exact absurd ⟨e.l, e.r⟩ h1
  · exact absurd ⟨e.l, e.r⟩ h2
  · exact e
def itr (S : List Pt) (p : Pt) : Nat → Pt
  | 0 => p
  | n + 1 => go1 (itr S p n) (outD S (itr S p n))
theorem crn_itr (h : Crn S p) : ∀ n, Crn S (itr S p n)
  | 0 => h
  | n + 1 => crn_go (outD_edge (crn_itr h n))
theorem rch_itr (g : Dg S) (h : Rch (RS S) p q) : ∃ n, q = itr S p n := by
  induction h with
  | refl => exact ⟨0, rfl⟩
  | step _ t ih =>
    obtain ⟨n, rfl⟩ := ih
    obtain ⟨d, e, rfl⟩ := t
    refine ⟨n + 1, ?_⟩
    show go1 _ d = go1 _ _
    rw [edge_one g e (outD_edge ⟨d, e⟩)]
theorem itr_add (m : Nat) : ∀ n, itr S p (m + n) = itr S (itr S p m) n
  | 0 => rfl
  | n + 1 => by
    show go1 (itr S p (m + n)) (outD S (itr S p (m + n))) = _
    rw [itr_add m n]; rfl
theorem least {P : Nat → Prop} (h : ∃ n, P n) : ∃ n, P n ∧ ∀ m, m < n → ¬ P m := by
  obtain ⟨n, hn⟩ := h
  have : ∀ k n, n ≤ k → P n → ∃ n, P n ∧ ∀ m, m < n → ¬ P m := by
    intro k
    induction k with
    | zero => intro n hk hP; exact ⟨n, hP, fun m hm => by omega⟩
    | succ k ih =>
      intro n hk hP
      by_cases z : ∃ m, m < n ∧ P m
      · obtain ⟨m, hm, hPm⟩ := z
        exact ih m (by omega) hPm
      · exact ⟨n, hP, fun m hm hPm => z ⟨m, hm, hPm⟩⟩
  exact this n n (Nat.le_refl _) hn
/-- the round from p has t steps -/
structure Rnd (S : List Pt) (p : Pt) (t : Nat) : Prop where
  pos : 0 < t
  back : itr S p t = p
  not : ∀ m, 0 < m → m < t → itr S p m ≠ p
  all : ∀ q, Crn S q → ∃ m, m < t ∧ q = itr S p m
  inj : ∀ i j, i < j → j < t → itr S p i ≠ itr S p j
theorem One.rnd (o : One S) (hp : Crn S p) : ∃ t, Rnd S p t := by
  have back : ∃ n, itr S p (n + 1) = p := by
    obtain ⟨n, hn⟩ := rch_itr o.dg (o.all (itr S p 1) p (crn_itr hp 1) hp)
    exact ⟨n, by rw [Nat.add_comm, itr_add]; exact hn.symm⟩
  obtain ⟨n, hn, hm⟩ := least back
  have nret : ∀ m, 0 < m → m < n + 1 → itr S p m ≠ p := fun m h0 h1 e => hm (m - 1) (by omega) (by rw [Nat.sub_add_cancel h0]; exact e)
  have per : ∀ k m, itr S p (k * (n + 1) + m) = itr S p m := by
    intro k
    induction k with
    | zero => intro m; rw [Nat.zero_mul, Nat.zero_add]
    | succ k ih =>
      intro m
      rw [show (k + 1) * (n + 1) + m = (n + 1) + (k * (n + 1) + m) from by rw [Nat.add_mul]; omega, itr_add, hn]
      exact ih m
  refine ⟨n + 1, by omega, hn, nret, fun q hq => ?_, fun i j hij hj e => ?_⟩
  · obtain ⟨m, rfl⟩ := rch_itr o.dg (o.all p q hp hq)
    refine ⟨m % (n + 1), Nat.mod_lt _ (by omega), ?_⟩
    have := per (m / (n + 1)) (m % (n + 1))
    rw [Nat.mul_comm, Nat.div_add_mod] at this
    exact this
  · have h1 : itr S p (j + (n + 1 - j)) = p := by rw [show j + (n + 1 - j) = n + 1 from by omega]; exact hn
    rw [itr_add, ← e, ← itr_add] at h1
    exact nret (i + (n + 1 - j)) (by omega) (by omega) h1
theorem sub_len {α : Type} [DecidableEq α] : ∀ {xs ys : List α}, xs.Nodup → (∀ x ∈ xs, x ∈ ys) → xs.length ≤ ys.length
  | [], _, _, _ => Nat.zero_le _
  | x :: xs, ys, nd, h => by
    have nd' := List.nodup_cons.mp nd
    have hx := h x List.mem_cons_self
    have := sub_len (xs := xs) (ys := ys.erase x) nd'.2 fun y hy => (List.mem_erase_of_ne (fun e : y = x => nd'.1 (e ▸ hy))).mpr (h y (List.mem_cons_of_mem _ hy))
    rw [List.length_erase_of_mem hx] at this
    have hpos := List.length_pos_of_mem hx
    show xs.length + 1 ≤ _
    omega
theorem Rnd.len {t : Nat} (r : Rnd S p t) (hp : Crn S p) {K : List Pt} (nd : K.Nodup) (hK : ∀ q, q ∈ K ↔ Crn S q) : K.length = t := by
  have e : ((List.range t).map (itr S p)).length = t := by rw [List.length_map, List.length_range]
  have n2 : ((List.range t).map (itr S p)).Nodup := by
    rw [List.Nodup, List.pairwise_iff_getElem]
    intro i j hi hj hij
    rw [List.length_map, List.length_range] at hi hj
    simp only [List.getElem_map, List.getElem_range]
    exact r.inj i j hij hj
  apply Nat.le_antisymm
  · have := sub_len nd (ys := (List.range t).map (itr S p)) fun q hq => by
      obtain ⟨m, hm, rfl⟩ := r.all q ((hK q).mp hq)
      exact List.mem_map.mpr ⟨m, List.mem_range.mpr hm, rfl⟩
    rw [e] at this; exact this
  · have := sub_len n2 (ys := K) fun q hq => by
      obtain ⟨m, _, rfl⟩ := List.mem_map.mp hq
      exact (hK _).mpr (crn_itr hp m)
    rw [e] at this; exact this
end

def sp_added : Sp3 := fun ds H Q => match ds with
  | [.tup [.int a, .int b], .tup [.int c, .int d]] => Q (.tup [.int (a + c), .int (b + d)]) H
  | [.tup [.int a, .int b], .ktup [.int c, .int d]] => Q (.tup [.int (a + c), .int (b + d)]) H
  | _ => False
theorem u_added {a b c d : Int} {H : Hp3} {Q : VK3} (h : Q (.tup [.int (a + c), .int (b + d)]) H) : sp_added [.tup [.int a, .int b], .tup [.int c, .int d]] H Q := h
theorem u_addedK {a b c d : Int} {H : Hp3} {Q : VK3} (h : Q (.tup [.int (a + c), .int (b + d)]) H) : sp_added [.tup [.int a, .int b], .ktup [.int c, .int d]] H Q := h
local macro_rules | `(tactic| walk_at "l3c") => `(tactic| first | (with_reducible refine u_added ?_) | (with_reducible refine u_addedK ?_))
theorem len_added : ∀ (ds : List D) (H : Hp3) (Q : VK3), sp_added ds H Q → ds.length = P_added.length := by
  intro ds H Q h
  unfold sp_added at h
  split at h
  · rfl
  · rfl
  · exact h.elim

def t_added : TS3 := (rt3 (tp3 (cons3 (o3 r3add (o3 r3ix (v3 0) (c3 (.int 0))) (o3 r3ix (v3 1) (c3 (.int 0)))) (cons3 (o3 r3add (o3 r3ix (v3 0) (c3 (.int 1))) (o3 r3ix (v3 1) (c3 (.int 1)))) nil3))))
theorem rd_added : ∀ (ds : List D) (H : Hp3) (Q : VK3), sp_added ds H Q → t_added (fin3 Q) (start3 N_added ds) H := by
  intro ds H Q h
  unfold sp_added at h
  split at h
  case h_3 => exact h.elim
  · simp only [t_added, start3, N_added, List.map_cons, List.map_nil, List.length_cons, List.length_nil, Nat.reduceAdd, Nat.reduceSub, Nat.zero_add, List.replicate, List.cons_append, List.nil_append]
    walk_at "l3"
    exact g_fin h Sub3.refl
  · simp only [t_added, start3, N_added, List.map_cons, List.map_nil, List.length_cons, List.length_nil, Nat.reduceAdd, Nat.reduceSub, Nat.zero_add, List.replicate, List.cons_append, List.nil_append]
    walk_at "l3"
    exact g_fin h Sub3.refl

def ltN (d : Nat) : Lt := match d with
  | 0 => 0
  | 1 => 1
  | 2 => 2
  | _ => 3
theorem step_ltN {d : Nat} (h : d < 4) : step (ltN d) = stp d := by
  rcases c4 h with rfl | rfl | rfl | rfl <;> rfl
/-- the side d of the cell c: where it begins, what lies beyond -/
def sdP (c : Pt) (d : Nat) : Pt := match d with
  | 0 => (c.1, c.2)
  | 1 => (c.1 + 1, c.2)
  | 2 => (c.1 + 1, c.2 + 1)
  | _ => (c.1, c.2 + 1)
def sdO (c : Pt) (d : Nat) : Pt := match d with
  | 0 => (c.1, c.2 - 1)
  | 1 => (c.1 + 1, c.2)
  | 2 => (c.1, c.2 + 1)
  | _ => (c.1 - 1, c.2)
theorem sd_l {c : Pt} {d : Nat} (h : d < 4) : lft (sdP c d) d = c := by
  rcases c4 h with rfl | rfl | rfl | rfl
  · rfl
  · exact Prod.ext (by show c.1 + 1 - 1 = c.1; omega) rfl
  · exact Prod.ext (by show c.1 + 1 - 1 = c.1; omega) (by show c.2 + 1 - 1 = c.2; omega)
  · exact Prod.ext rfl (by show c.2 + 1 - 1 = c.2; omega)
theorem sd_r {c : Pt} {d : Nat} (h : d < 4) : rgt (sdP c d) d = sdO c d := by
  rcases c4 h with rfl | rfl | rfl | rfl
  · rfl
  · rfl
  · exact Prod.ext (by show c.1 + 1 - 1 = c.1; omega) rfl
  · exact Prod.ext rfl (by show c.2 + 1 - 1 = c.2; omega)
theorem sd_of {p : Pt} {d : Nat} (h : d < 4) : p = sdP (lft p d) d := by
  rcases c4 h with rfl | rfl | rfl | rfl
  · rfl
  · exact Prod.ext (by show p.1 = p.1 - 1 + 1; omega) rfl
  · exact Prod.ext (by show p.1 = p.1 - 1 + 1; omega) (by show p.2 = p.2 - 1 + 1; omega)
  · exact Prod.ext rfl (by show p.2 = p.2 - 1 + 1; omega)
/-- the sides looked at so far: all of the first i cells, k of the next one -/
structure Lb (S : List Pt) (val : Pt → Nat → D) (i k : Nat) (kvs : List (Pt × D)) : Prop where
  nd : (kvs.map (·.1)).Nodup
  sub : ∀ q ∈ kvs.map (·.1), Crn S q
  has : ∀ (j d : Nat) (c : Pt), S[j]? = some c → d < 4 → (j < i ∨ (j = i ∧ d < k)) → sdO c d ∉ S → sdP c d ∈ kvs.map (·.1)
  look : ∀ q ∈ kvs.map (·.1), lookV kvs q = some (val q (outD S q))
  len : kvs.length ≤ 4 * i + k
section
variable {S : List Pt} {val : Pt → Nat → D} {i k : Nat} {kvs : List (Pt × D)} {c : Pt}
theorem Lb.nil : Lb S val 0 0 [] := ⟨by simp, by simp, fun j d c _ _ h => by omega, by simp, by simp⟩
theorem Lb.skip (h : Lb S val i k kvs) (hc : S[i]? = some c) (hin : sdO c k ∈ S) : Lb S val i (k + 1) kvs :=
  ⟨h.nd, h.sub, fun j d c' hj hd hjk ho => by
    by_cases e : j = i ∧ d = k
    · obtain ⟨rfl, rfl⟩ := e
      rw [hc] at hj; cases hj
      exact absurd hin ho
    · exact h.has j d c' hj hd (by omega) ho, h.look, by have := h.len; omega⟩
theorem Lb.put (g : Dg S) (h : Lb S val i k kvs) (hc : S[i]? = some c) (hk : k < 4) (hin : sdO c k ∉ S) : Lb S val i (k + 1) (putV kvs (sdP c k) (val (sdP c k) k)) := by
  have hcS : c ∈ S := List.mem_of_getElem? hc
  have ed : Edge S (sdP c k) k := ⟨hk, by rw [sd_l hk]; exact hcS, by rw [sd_r hk]; exact hin⟩
  have eo : outD S (sdP c k) = k := edge_one g (outD_edge ⟨k, ed⟩) ed
  refine ⟨putV_nodup h.nd, fun q hq => ?_, fun j d c' hj hd hjk ho => ?_, fun q hq => ?_, ?_⟩
  · rcases putV_mem.mp hq with hq | rfl
    · exact h.sub q hq
    · exact ⟨k, ed⟩
  · by_cases e : j = i ∧ d = k
    · obtain ⟨rfl, rfl⟩ := e
      rw [hc] at hj; cases hj
      exact putV_mem.mpr (.inr rfl)
    · exact putV_mem.mpr (.inl (h.has j d c' hj hd (by omega) ho))
  · rw [lookV_put]
    by_cases e : q = sdP c k
    · subst e; rw [if_pos rfl, eo]
    · rw [if_neg e]
      exact h.look q ((putV_mem.mp hq).resolve_right e)
  · have hl := h.len
    unfold putV
    split
    · rw [List.length_map]; omega
    · rw [List.length_append, List.length_singleton]; omega
theorem Lb.next (h : Lb S val i 4 kvs) : Lb S val (i + 1) 0 kvs :=
  ⟨h.nd, h.sub, fun j d c hj hd hjk ho => h.has j d c hj hd (by omega) ho, h.look, by have := h.len; omega⟩
theorem Lb.all (h : Lb S val S.length 0 kvs) (q : Pt) : q ∈ kvs.map (·.1) ↔ Crn S q := by
  refine ⟨h.sub q, fun ⟨d, e⟩ => ?_⟩
  obtain ⟨j, hj⟩ := List.mem_iff_getElem?.mp e.l
  have := h.has j d _ hj e.lt (.inl (List.getElem?_eq_some_iff.mp hj).1) (by rw [← sd_r e.lt, ← sd_of e.lt]; exact e.r)
  rw [← sd_of e.lt] at this
  exact this
theorem Lb.at (h : Lb S val S.length 0 kvs) {q : Pt} (hq : Crn S q) : lookV kvs q = some (val q (outD S q)) := h.look q ((h.all q).mpr hq)
end
theorem at_first {S : List Pt} {s : Pt} (h : S[0]? = some s) : atI (S.map prP) 0 = some (.tup [.int s.1, .int s.2]) := by
  have := (List.getElem?_eq_some_iff.mp h).1
  unfold atI ixN
  rw [List.length_map, if_pos (by omega), if_pos (by omega), Option.bind_some, List.getElem?_map]
  show (S[0]?).map prP = _
  rw [h]; rfl
theorem outD_lt {S : List Pt} {p : Pt} : outD S p < 4 := by unfold outD; repeat (first | omega | split)
def sdD (c : Pt) (d : Nat) : D := .tup [prP (sdP c d), .str (lt1 (ltN d)), prP (sdO c d)]
def sp_sides_of : Sp3 := fun ds H Q => match ds with
  | [.tup [.int x, .int y]] => ∀ p, H p = none → Q (.ref p) (upd3 H p (.lst ((List.range 4).map (sdD (x, y)))))
  | _ => False
theorem u_sides_of {x y : Int} {H : Hp3} {Q : VK3} (h : ∀ p, H p = none → Q (.ref p) (upd3 H p (.lst ((List.range 4).map (sdD (x, y)))))) : sp_sides_of [.tup [.int x, .int y]] H Q := h
theorem len_sides_of : ∀ (ds : List D) (H : Hp3) (Q : VK3), sp_sides_of ds H Q → ds.length = P_sides_of.length := by
  intro ds H Q h
  unfold sp_sides_of at h
  split at h
  · rfl
  · exact h.elim

def t_sides_of : TS3 := (sq3 (st3 1 (o3 r3ix (v3 0) (c3 (.int 0))))
    (sq3 (st3 2 (o3 r3ix (v3 0) (c3 (.int 1))))
    (rt3 (ls3 (cons3 (tp3 (cons3 (tp3 (cons3 (v3 1) (cons3 (v3 2) nil3))) (cons3 (c3 (.str "e")) (cons3 (tp3 (cons3 (v3 1) (cons3 (o3 i3sub (v3 2) (c3 (.int 1))) nil3))) nil3)))) (cons3 (tp3 (cons3 (tp3 (cons3 (o3 r3add (v3 1) (c3 (.int 1))) (cons3 (v3 2) nil3))) (cons3 (c3 (.str "n")) (cons3 (tp3 (cons3 (o3 r3add (v3 1) (c3 (.int 1))) (cons3 (v3 2) nil3))) nil3)))) (cons3 (tp3 (cons3 (tp3 (cons3 (o3 r3add (v3 1) (c3 (.int 1))) (cons3 (o3 r3add (v3 2) (c3 (.int 1))) nil3))) (cons3 (c3 (.str "w")) (cons3 (tp3 (cons3 (v3 1) (cons3 (o3 r3add (v3 2) (c3 (.int 1))) nil3))) nil3)))) (cons3 (tp3 (cons3 (tp3 (cons3 (v3 1) (cons3 (o3 r3add (v3 2) (c3 (.int 1))) nil3))) (cons3 (c3 (.str "s")) (cons3 (tp3 (cons3 (o3 i3sub (v3 1) (c3 (.int 1))) (cons3 (v3 2) nil3))) nil3)))) nil3))))))))
theorem rd_sides_of : ∀ (ds : List D) (H : Hp3) (Q : VK3), sp_sides_of ds H Q → t_sides_of (fin3 Q) (start3 N_sides_of ds) H := by
  intro ds H Q h
  unfold sp_sides_of at h
  split at h
  case h_2 => exact h.elim
  rename_i x y
  simp only [t_sides_of, start3, N_sides_of, List.map_cons, List.map_nil, List.length_cons, List.length_nil, Nat.reduceAdd, Nat.reduceSub, Nat.zero_add, List.replicate, List.cons_append, List.nil_append]
  walk_at "l3"
  intro p hp
  exact g_fin (h p hp) Sub3.refl

def sp_l_cell_at : Sp3 := fun ds H Q => match ds with
  | [.fl xs, .int k] => (match intsOf xs with
    | some ns => 0 ≤ k ∧ Q (.int (ns.getD k.toNat 0)) H
    | none => False)
  | _ => False
theorem u_l_cell_at {ns : List Int} {k : Int} {H : Hp3} {Q : VK3} (hk : 0 ≤ k) (h : Q (.int (ns.getD k.toNat 0)) H) : sp_l_cell_at [.fl (ns.map D.int), .int k] H Q := by
  simp only [sp_l_cell_at, intsOf_map]; exact ⟨hk, h⟩
local macro_rules | `(tactic| walk_at "l3c") => `(tactic| ((with_reducible show sp_l_cell_at _ _ _); refine u_l_cell_at (by walk_at "l3a") ?_))
theorem len_l_cell_at : ∀ (ds : List D) (H : Hp3) (Q : VK3), sp_l_cell_at ds H Q → ds.length = P_l_cell_at.length := by
  intro ds H Q h
  unfold sp_l_cell_at at h
  split at h
  · rfl
  · exact h.elim

def t_l_cell_at : TS3 := (sq3 (is3 (ts3 (o3 r3lt (v3 1) (cb3 r3len (cons3 (v3 0) nil3)))) (rt3 (o3 r3ix (v3 0) (v3 1))) nx3)
    (rt3 (c3 (.int 0))))
theorem rd_l_cell_at : ∀ (ds : List D) (H : Hp3) (Q : VK3), sp_l_cell_at ds H Q → t_l_cell_at (fin3 Q) (start3 N_l_cell_at ds) H := by
  intro ds H Q h
  unfold sp_l_cell_at at h
  split at h
  case h_2 => exact h.elim
  rename_i xs k
  split at h
  case h_2 => exact h.elim
  rename_i ns e
  have e' := intsOf_inv e
  subst e'
  obtain ⟨hk, h⟩ := h
  simp only [t_l_cell_at, start3, N_l_cell_at, List.map_cons, List.map_nil, List.length_cons, List.length_nil, Nat.reduceAdd, Nat.reduceSub, Nat.zero_add, List.replicate, List.cons_append, List.nil_append]
  walk_at "l3"
  refine ifD (fun hlt => ?_) fun hlt => ?_
  · have hl : k.toNat < ns.length := by rw [List.length_map] at hlt; omega
    have ha : atI (ns.map D.int) k = some (.int (ns.getD k.toNat 0)) := by
      unfold atI ixN
      rw [if_pos hk, if_pos hlt, Option.bind_some, List.getElem?_map, List.getElem?_eq_getElem hl, List.getD_eq_getElem?_getD, List.getElem?_eq_getElem hl]
      rfl
    walk_at "l3"
    refine g_ixF ha ?_
    walk_at "l3"
    exact g_fin h Sub3.refl
  · walk_at "l3"
    have hl : ¬ k.toNat < ns.length := by rw [List.length_map] at hlt; omega
    rw [List.getD_eq_getElem?_getD, List.getElem?_eq_none (by omega)] at h
    exact g_fin h Sub3.refl

def sp_l_whole : Sp3 := fun ds H Q => match ds with
  | [.int _] => Q (.bl true) H
  | _ => False
theorem u_l_whole {i : Int} {H : Hp3} {Q : VK3} (h : Q (.bl true) H) : sp_l_whole [.int i] H Q := h
local macro_rules | `(tactic| walk_at "l3c") => `(tactic| (with_reducible refine u_l_whole ?_))
theorem len_l_whole : ∀ (ds : List D) (H : Hp3) (Q : VK3), sp_l_whole ds H Q → ds.length = P_l_whole.length := by
  intro ds H Q h
  unfold sp_l_whole at h
  split at h
  · rfl
  · exact h.elim

def t_l_whole : TS3 := (rt3 (av3 (cb3 r3isi (cons3 (v3 0) (cons3 (c3 (.ty "int")) nil3))) (nv3 (cb3 r3isi (cons3 (v3 0) (cons3 (c3 (.ty "bool")) nil3))))))
theorem rd_l_whole : ∀ (ds : List D) (H : Hp3) (Q : VK3), sp_l_whole ds H Q → t_l_whole (fin3 Q) (start3 N_l_whole ds) H := by
  intro ds H Q h
  unfold sp_l_whole at h
  split at h
  case h_2 => exact h.elim
  simp only [t_l_whole, start3, N_l_whole, List.map_cons, List.map_nil, List.length_cons, List.length_nil, Nat.reduceAdd, Nat.reduceSub, Nat.zero_add, List.replicate, List.cons_append, List.nil_append]
  walk_at "l3"
  refine ifY rfl ?_
  walk_at "l3"
  exact g_fin h Sub3.refl

def sp_l_sorted : Sp3 := fun ds H Q => match ds with
  | [.ref a] => (match H a with
    | some (.lst xs) => (match ptsOf xs with
      | some ps => ps.length ≤ 500 ∧ ∀ p, H p = none → Q (.ref p) (upd3 H p (.lst ((isort ps).map prP)))
      | none => False)
    | _ => False)
  | _ => False
theorem u_l_sorted {ps : List Pt} {a : Addr} {H : Hp3} {Q : VK3} (ha : H a = some (.lst (ps.map prP))) (hl : ps.length ≤ 500) (h : ∀ p, H p = none → Q (.ref p) (upd3 H p (.lst ((isort ps).map prP)))) : sp_l_sorted [.ref a] H Q := by
  simp only [sp_l_sorted, ha, ptsOf_map]; exact ⟨hl, h⟩
def meas (n i : Nat) (σ : St3) : Nat := match σ[i]? with
  | some (some (.int k)) => n - k.toNat
  | _ => 0
theorem len_l_sorted : ∀ (ds : List D) (H : Hp3) (Q : VK3), sp_l_sorted ds H Q → ds.length = P_l_sorted.length := by
  intro ds H Q h
  unfold sp_l_sorted at h
  split at h
  · rfl
  · exact h.elim

def lp_l_sorted_0 : TS3 := wh3 (an3 (ts3 (o3 r3lt (v3 3) (cb3 r3len (cons3 (v3 1) nil3)))) (ts3 (o3 r3lt (tp3 (cons3 (o3 r3ix (o3 r3ix (v3 1) (v3 3)) (c3 (.int 1))) (cons3 (o3 r3ix (o3 r3ix (v3 1) (v3 3)) (c3 (.int 0))) nil3))) (tp3 (cons3 (o3 r3ix (v3 2) (c3 (.int 1))) (cons3 (o3 r3ix (v3 2) (c3 (.int 0))) nil3)))))) (st3 3 (o3 r3add (v3 3) (c3 (.int 1))))
def lp_l_sorted_1 : TS3 := fo3 (il3 (v3 0)) (gn3 2) (sq3 (st3 3 (c3 (.int 0)))
    (sq3 lp_l_sorted_0
    (dr3 (m3 r3ins (v3 1) (cons3 (v3 3) (cons3 (v3 2) nil3))))))
def t_l_sorted : TS3 := (sq3 (st3 1 (ls3 nil3))
    (sq3 lp_l_sorted_1
    (rt3 (v3 1))))
theorem rd_l_sorted : ∀ (ds : List D) (H : Hp3) (Q : VK3), sp_l_sorted ds H Q → t_l_sorted (fin3 Q) (start3 N_l_sorted ds) H := by
  intro ds H Q h
  unfold sp_l_sorted at h
  split at h
  case h_2 => exact h.elim
  rename_i a
  split at h
  case h_2 => exact h.elim
  rename_i xs ha
  split at h
  case h_2 => exact h.elim
  rename_i ps e
  have e' := ptsOf_inv e
  subst e'
  obtain ⟨hl, h⟩ := h
  simp only [t_l_sorted, start3, N_l_sorted, List.map_cons, List.map_nil, List.length_cons, List.length_nil, Nat.reduceAdd, Nat.reduceSub, Nat.zero_add, List.replicate, List.cons_append, List.nil_append]
  walk_at "l3"
  intro p hp
  walk_at "l3"
  unfold lp_l_sorted_1
  walk_at "l3"
  refine Lp.by (fun i σ H2 => H2 = upd3 H p (.lst ((isort (ps.take i)).map prP)) ∧ ∃ c t, σ = [some (.ref a), some (.ref p), c, t]) ⟨rfl, _, _, rfl⟩ (fun i σ H2 _ z => by rw [z.1]; exact upd3_old ha hp) ?_ ?_
  · rintro i d σ H2 hd ⟨rfl, c0, t0, rfl⟩
    rw [List.getElem?_map] at hd
    obtain ⟨c, hc, rfl⟩ := Option.map_eq_some_iff.mp hd
    have hi : i < ps.length := (List.getElem?_eq_some_iff.mp hc).1
    rw [isort_take hc]
    have hrl : (isort (ps.take i)).length ≤ 500 := by rw [isort_len, List.length_take]; omega
    generalize isort (ps.take i) = row at hrl
    walk_at "l3"
    unfold lp_l_sorted_0
    refine g_wh (fun σ H2 => H2 = upd3 H p (.lst (row.map prP)) ∧ ∃ k : Nat, k ≤ row.length ∧ (∀ r ∈ row.take k, ltc c r = true) ∧ σ = [some (.ref a), some (.ref p), some (prP c), some (.int k)]) (fun σ _ => meas row.length 3 σ) ⟨rfl, 0, Nat.zero_le _, by simp, rfl⟩ ?_
    rintro σ H2 ⟨rfl, k, hk, hall, rfl⟩
    walk_at "l3"
    refine ifD (fun hlt => ?_) fun hlt => ?_
    · have hlt' : k < row.length := by rw [List.length_map] at hlt; omega
      have hk' : ((k : Int)).toNat < row.length := by omega
      walk_at "l3"
      refine g_ixL upd3_same (atI_map (by omega) hk') ?_
      unfold prP
      walk_at "l3"
      refine g_ixL upd3_same (atI_map (by omega) hk') ?_
      walk_at "l3"
      refine ifB (fun hc1 => ?_) fun hc1 => ?_
      · walk_at "l3"
        refine ⟨⟨rfl, k + 1, hlt', ?_, rfl⟩, ?_⟩
        · intro r hr
          rw [List.take_add_one, List.mem_append] at hr
          rcases hr with hr | hr
          · exact hall r hr
          · rw [List.getElem?_eq_getElem hlt'] at hr
            simp at hr
            subst hr
            exact hc1
        · show row.length - ((k : Int) + 1).toNat < row.length - (k : Int).toNat
          omega
      · walk_at "l3"
        refine g_ins upd3_same ⟨by omega, by rw [List.length_map]; omega⟩ (by rw [List.length_map]; omega) ?_
        walk_at "l3"
        rw [upd3_upd3]
        refine ⟨?_, _, _, rfl⟩
        obtain ⟨e1, e2⟩ := take_while_eq hk hall (fun _ => hc1)
        unfold insP
        rw [e1, e2, List.map_append, List.map_cons, List.map_take, List.map_drop]
        rfl
    · have hk' : k = row.length := by rw [List.length_map] at hlt; omega
      refine ifX rfl ?_
      walk_at "l3"
      unfold prP
      walk_at "l3"
      refine g_ins upd3_same ⟨by omega, by rw [List.length_map]; omega⟩ (by rw [List.length_map]; omega) ?_
      walk_at "l3"
      rw [upd3_upd3]
      refine ⟨?_, _, _, rfl⟩
      obtain ⟨e1, e2⟩ := take_while_eq hk hall (fun h => by omega)
      unfold insP
      rw [e1, e2, List.map_append, List.map_cons, List.map_take, List.map_drop]
      rfl
  · rintro σ H2 ⟨rfl, c, t, rfl⟩
    walk_at "l3"
    rw [List.length_map, List.take_length]
    exact g_fin (h p hp) Sub3.refl

def beside (p : Pt) : List Pt := [(p.1 + 1, p.2), (p.1, p.2 + 1), (p.1 - 1, p.2), (p.1, p.2 - 1)]
def sp_l_beside : Sp3 := fun ds H Q => match ds with
  | [.tup [.int x, .int y]] => ∀ p, H p = none → Q (.ref p) (upd3 H p (.lst ((beside (x, y)).map prP)))
  | _ => False
theorem u_l_beside {x y : Int} {H : Hp3} {Q : VK3} (h : ∀ p, H p = none → Q (.ref p) (upd3 H p (.lst ((beside (x, y)).map prP)))) : sp_l_beside [.tup [.int x, .int y]] H Q := h
theorem len_l_beside : ∀ (ds : List D) (H : Hp3) (Q : VK3), sp_l_beside ds H Q → ds.length = P_l_beside.length := by
  intro ds H Q h
  unfold sp_l_beside at h
  split at h
  · rfl
  · exact h.elim

def t_l_beside : TS3 := (rt3 (ls3 (cons3 (tp3 (cons3 (o3 r3add (o3 r3ix (v3 0) (c3 (.int 0))) (c3 (.int 1))) (cons3 (o3 r3ix (v3 0) (c3 (.int 1))) nil3))) (cons3 (tp3 (cons3 (o3 r3ix (v3 0) (c3 (.int 0))) (cons3 (o3 r3add (o3 r3ix (v3 0) (c3 (.int 1))) (c3 (.int 1))) nil3))) (cons3 (tp3 (cons3 (o3 i3sub (o3 r3ix (v3 0) (c3 (.int 0))) (c3 (.int 1))) (cons3 (o3 r3ix (v3 0) (c3 (.int 1))) nil3))) (cons3 (tp3 (cons3 (o3 r3ix (v3 0) (c3 (.int 0))) (cons3 (o3 i3sub (o3 r3ix (v3 0) (c3 (.int 1))) (c3 (.int 1))) nil3))) nil3))))))
theorem rd_l_beside : ∀ (ds : List D) (H : Hp3) (Q : VK3), sp_l_beside ds H Q → t_l_beside (fin3 Q) (start3 N_l_beside ds) H := by
  intro ds H Q h
  unfold sp_l_beside at h
  split at h
  case h_2 => exact h.elim
  rename_i x y
  simp only [t_l_beside, start3, N_l_beside, List.map_cons, List.map_nil, List.length_cons, List.length_nil, Nat.reduceAdd, Nat.reduceSub, Nat.zero_add, List.replicate, List.cons_append, List.nil_append]
  walk_at "l3"
  exact fun p hp => g_fin (h p hp) Sub3.refl

def ring (c : Pt) : List Pt := [(c.1 + 1, c.2), (c.1 + 1, c.2 + 1), (c.1, c.2 + 1), (c.1 - 1, c.2 + 1), (c.1 - 1, c.2), (c.1 - 1, c.2 - 1), (c.1, c.2 - 1), (c.1 + 1, c.2 - 1)]
/-- whether the cell of the ring, 2 i - j places on, is empty -/
def rE (ps : List Pt) (c : Pt) (i j : Nat) : Bool := !decide ((ring c).getD ((2 * i + 8 - j) % 8) (0, 0) ∈ ps)
def rn (ps : List Pt) (c : Pt) : Nat → Int
  | 0 => 0
  | i + 1 => rn ps c i + if (rE ps c i 0 && !(rE ps c i 1 && rE ps c i 2)) = true then 1 else 0
def shuts (ps : List Pt) (c : Pt) : Bool := decide (1 < rn ps c 4)
def sp_l_shuts_in : Sp3 := fun ds H Q => match ds with
  | [.ref a, .tup [.int x, .int y]] => (match H a with
    | some (.lst xs) => (match ptsOf xs with
      | some ps => Q (.bl (shuts ps (x, y))) H
      | none => False)
    | _ => False)
  | _ => False
theorem u_l_shuts_in {ps : List Pt} {a : Addr} {x y : Int} {H : Hp3} {Q : VK3} (ha : H a = some (.lst (ps.map prP))) (h : Q (.bl (shuts ps (x, y))) H) : sp_l_shuts_in [.ref a, .tup [.int x, .int y]] H Q := by
  simp only [sp_l_shuts_in, ha, ptsOf_map]; exact h
theorem ring_at {ps : List Pt} {c : Pt} {i : Nat} (hi : i < 4) : [D.int 0, .int 2, .int 4, .int 6][i]? = some (.int (2 * i)) ∧ atI ((ring c).map fun q => D.bl (!decide (q ∈ ps))) (2 * (i : Int)) = some (.bl (rE ps c i 0)) ∧
    atI ((ring c).map fun q => D.bl (!decide (q ∈ ps))) (2 * (i : Int) - 1) = some (.bl (rE ps c i 1)) ∧ atI ((ring c).map fun q => D.bl (!decide (q ∈ ps))) (2 * (i : Int) - 2) = some (.bl (rE ps c i 2)) := by
  match i, hi with
  | 0, _ => exact ⟨rfl, rfl, rfl, rfl⟩
  | 1, _ => exact ⟨rfl, rfl, rfl, rfl⟩
  | 2, _ => exact ⟨rfl, rfl, rfl, rfl⟩
  | 3, _ => exact ⟨rfl, rfl, rfl, rfl⟩
theorem len_l_shuts_in : ∀ (ds : List D) (H : Hp3) (Q : VK3), sp_l_shuts_in ds H Q → ds.length = P_l_shuts_in.length := by
  intro ds H Q h
  unfold sp_l_shuts_in at h
  split at h
  · rfl
  · exact h.elim

def lp_l_shuts_in_0 : TS3 := fo3 (il3 (ls3 (cons3 (c3 (.int 0)) (cons3 (c3 (.int 2)) (cons3 (c3 (.int 4)) (cons3 (c3 (.int 6)) nil3)))))) (gn3 7) (is3 (an3 (ts3 (o3 r3ix (v3 5) (v3 7))) (no3 (an3 (ts3 (o3 r3ix (v3 5) (o3 i3sub (v3 7) (c3 (.int 1))))) (ts3 (o3 r3ix (v3 5) (o3 i3sub (v3 7) (c3 (.int 2)))))))) (st3 6 (o3 r3add (v3 6) (c3 (.int 1)))) nx3)
def t_l_shuts_in : TS3 := (sq3 (as3 (v3 1) (g2_3 2 3))
    (sq3 (st3 4 (ls3 (cons3 (tp3 (cons3 (o3 r3add (v3 2) (c3 (.int 1))) (cons3 (v3 3) nil3))) (cons3 (tp3 (cons3 (o3 r3add (v3 2) (c3 (.int 1))) (cons3 (o3 r3add (v3 3) (c3 (.int 1))) nil3))) (cons3 (tp3 (cons3 (v3 2) (cons3 (o3 r3add (v3 3) (c3 (.int 1))) nil3))) (cons3 (tp3 (cons3 (o3 i3sub (v3 2) (c3 (.int 1))) (cons3 (o3 r3add (v3 3) (c3 (.int 1))) nil3))) nil3))))))
    (sq3 (st3 4 (o3 r3add (v3 4) (ls3 (cons3 (tp3 (cons3 (o3 i3sub (v3 2) (c3 (.int 1))) (cons3 (v3 3) nil3))) (cons3 (tp3 (cons3 (o3 i3sub (v3 2) (c3 (.int 1))) (cons3 (o3 i3sub (v3 3) (c3 (.int 1))) nil3))) (cons3 (tp3 (cons3 (v3 2) (cons3 (o3 i3sub (v3 3) (c3 (.int 1))) nil3))) (cons3 (tp3 (cons3 (o3 r3add (v3 2) (c3 (.int 1))) (cons3 (o3 i3sub (v3 3) (c3 (.int 1))) nil3))) nil3)))))))
    (sq3 (st3 5 (cp3 (il3 (v3 4)) (gn3 0) yes3 (o3 (r3inX true) (v3 0) (v3 1)) ["_law_cell"] [(0, "_law_cells")]))
    (sq3 (st3 6 (c3 (.int 0)))
    (sq3 lp_l_shuts_in_0
    (rt3 (o3 i3gt (v3 6) (c3 (.int 1))))))))))
theorem rd_l_shuts_in : ∀ (ds : List D) (H : Hp3) (Q : VK3), sp_l_shuts_in ds H Q → t_l_shuts_in (fin3 Q) (start3 N_l_shuts_in ds) H := by
  intro ds H Q h
  unfold sp_l_shuts_in at h
  split at h
  case h_2 => exact h.elim
  rename_i a x y
  split at h
  case h_2 => exact h.elim
  rename_i xs ha
  split at h
  case h_2 => exact h.elim
  rename_i ps e
  have e' := ptsOf_inv e
  subst e'
  simp only [t_l_shuts_in, start3, N_l_shuts_in, List.map_cons, List.map_nil, List.length_cons, List.length_nil, Nat.reduceAdd, Nat.reduceSub, Nat.zero_add, List.replicate, List.cons_append, List.nil_append]
  walk_at "l3"
  intro p1 hp1
  walk_at "l3"
  intro p2 hp2
  walk_at "l3"
  refine g_cat (upd3_old upd3_same hp2) upd3_same (by rw [sizeLine_n]; simp) ?_
  intro p3 hp3
  walk_at "l3"
  refine Cp.map (as := ring (x, y)) (E := prP) (fun q => D.bl (!decide (q ∈ ps))) (fun H2 hs => hs _ _ upd3_same) (by show 8 ≤ 1000; decide) ?_ ?_
  · intro i q hq R H2 hs hR
    unfold prP
    walk_at "l3"
    refine g_ninX (seq_ref (hs _ _ (upd3_old (upd3_old (upd3_old ha hp1) hp2) hp3))) ?_
    exact hR H2 Sub3.refl
  intro p4 hp4
  walk_at "l3"
  unfold lp_l_shuts_in_0
  walk_at "l3"
  intro p5 hp5
  walk_at "l3"
  refine Lp.heap (fun H5 => H5 p4 = some (.lst ((ring (x, y)).map fun q => D.bl (!decide (q ∈ ps)))) ∧ Sub3 H H5 ∧ H5 p5 = some (.lst [D.int 0, .int 2, .int 4, .int 6]))
    ⟨upd3_old upd3_same hp5, ((((Sub3.fresh hp1).trans (Sub3.fresh hp2)).trans (Sub3.fresh hp3)).trans (Sub3.fresh hp4)).trans (Sub3.fresh hp5), upd3_same⟩ ?_
  rintro H5 ⟨hE, hs, h5⟩
  refine Lp.by (fun i σ H2 => H2 = H5 ∧ ∃ k, σ = [some (.ref a), some (.tup [.int x, .int y]), some (.int x), some (.int y), some (.ref p3), some (.ref p4), some (.int (rn ps (x, y) i)), k]) ⟨rfl, _, rfl⟩ (fun i σ H2 _ z => by rw [z.1]; exact h5) ?_ ?_
  · rintro i d σ H2 hd ⟨rfl, k, rfl⟩
    have hi : i < 4 := (List.getElem?_eq_some_iff.mp hd).1
    obtain ⟨r0, r1, r2, r3⟩ := ring_at (ps := ps) (c := (x, y)) hi
    rw [r0] at hd
    cases hd
    walk_at "l3"
    refine g_ixL hE r1 ?_
    walk_at "l3"
    refine ifB (fun e1 => ?_) fun e1 => ?_
    · walk_at "l3"
      refine g_ixL hE r2 ?_
      walk_at "l3"
      refine ifB (fun e2 => ?_) fun e2 => ?_
      · walk_at "l3"
        refine g_ixL hE r3 ?_
        walk_at "l3"
        refine ifB (fun e3 => ?_) fun e3 => ?_
        · walk_at "l3"
          refine ⟨rfl, some (.int (2 * (i : Int))), ?_⟩
          have e3' : rE ps (x, y) i 2 = false := by simpa using e3
          simp only [rn, e1, e2, e3', Bool.and_false, Bool.not_false, Bool.and_true, if_true]
        · walk_at "l3"
          refine ⟨rfl, some (.int (2 * (i : Int))), ?_⟩
          have e3' : rE ps (x, y) i 2 = true := by simpa using e3
          simp only [rn, e1, e2, e3', Bool.and_true, Bool.not_true, Bool.and_false, Bool.false_eq_true, if_false, Int.add_zero]
      · walk_at "l3"
        refine ifY rfl ?_
        walk_at "l3"
        refine ⟨rfl, some (.int (2 * (i : Int))), ?_⟩
        simp only [rn, e1, e2, Bool.false_and, Bool.not_false, Bool.and_true, if_true]
    · walk_at "l3"
      refine ifX rfl ?_
      walk_at "l3"
      refine ⟨rfl, some (.int (2 * (i : Int))), ?_⟩
      simp only [rn, e1, Bool.false_and, Bool.false_eq_true, if_false, Int.add_zero]
  · rintro σ H2 ⟨rfl, k, rfl⟩
    walk_at "l3"
    exact g_fin h hs

def far (c : Int) : Int := if c % 3 = 0 then c / 3 % 19 - 9 else c / 3 * 7919 % (2 * 10 ^ 40 + 1) - 10 ^ 40
def sp_l_far : Sp3 := fun ds H Q => match ds with
  | [.int c] => Q (.int (far c)) H
  | _ => False
theorem u_l_far {c : Int} {H : Hp3} {Q : VK3} (h : Q (.int (far c)) H) : sp_l_far [.int c] H Q := h
local macro_rules | `(tactic| walk_at "l3c") => `(tactic| (with_reducible refine u_l_far ?_))
theorem len_l_far : ∀ (ds : List D) (H : Hp3) (Q : VK3), sp_l_far ds H Q → ds.length = P_l_far.length := by
  intro ds H Q h
  unfold sp_l_far at h
  split at h
  · rfl
  · exact h.elim

def t_l_far : TS3 := (sq3 (is3 (ts3 (o3 r3eq (o3 i3mod (v3 0) (c3 (.int 3))) (c3 (.int 0)))) (rt3 (o3 i3sub (o3 i3mod (o3 i3divW (v3 0) (c3 (.int 3))) (c3 (.int 19))) (c3 (.int 9)))) nx3)
    (rt3 (o3 i3sub (o3 i3mod (o3 i3mulW (o3 i3divW (v3 0) (c3 (.int 3))) (c3 (.int 7919))) (o3 r3add (o3 i3mulW (c3 (.int 2)) (o3 i3pow (c3 (.int 10)) (c3 (.int 40)))) (c3 (.int 1)))) (o3 i3pow (c3 (.int 10)) (c3 (.int 40))))))
theorem rd_l_far : ∀ (ds : List D) (H : Hp3) (Q : VK3), sp_l_far ds H Q → t_l_far (fin3 Q) (start3 N_l_far ds) H := by
  intro ds H Q h
  unfold sp_l_far at h
  split at h
  case h_2 => exact h.elim
  rename_i c
  simp only [t_l_far, start3, N_l_far, List.map_cons, List.map_nil, List.length_cons, List.length_nil, Nat.reduceAdd, Nat.reduceSub, Nat.zero_add, List.replicate, List.cons_append, List.nil_append]
  unfold far at h
  walk_at "l3"
  refine ifD (fun hc => ?_) fun hc => ?_
  · rw [if_pos hc] at h
    walk_at "l3"
    exact g_fin h Sub3.refl
  · rw [if_neg hc] at h
    walk_at "l3"
    exact g_fin h Sub3.refl

/-- a side as the law keeps it: its letter, where it leads to, what lies beyond -/
def sv (q : Pt) (d : Nat) : D := .tup [.str (lt1 (ltN d)), prP (go1 q d), prP (rgt q d)]
theorem tup3_eq {z : Str} {a b c d a' b' c' d' : Int} (h1 : a = a') (h2 : b = b') (h3 : c = c') (h4 : d = d') : D.tup [.str z, .tup [.int a, .int b], .tup [.int c, .int d]] = D.tup [.str z, .tup [.int a', .int b'], .tup [.int c', .int d']] := by rw [h1, h2, h3, h4]
theorem sv0 (x y : Int) : sv (sdP (x, y) 0) 0 = .tup [.str (Str.ofString "e"), .tup [.int (x + 1), .int y], .tup [.int x, .int (y - 1)]] :=
  tup3_eq (z := lt1 0) (by show x + 1 = x + 1; rfl) (by show y + 0 = y; omega) rfl rfl
theorem sv1 (x y : Int) : sv (sdP (x, y) 1) 1 = .tup [.str (Str.ofString "n"), .tup [.int (x + 1), .int (y + 1)], .tup [.int (x + 1), .int y]] :=
  tup3_eq (z := lt1 1) (by show x + 1 + 0 = x + 1; omega) (by show y + 1 = y + 1; rfl) rfl rfl
theorem sv2 (x y : Int) : sv (sdP (x, y) 2) 2 = .tup [.str (Str.ofString "w"), .tup [.int x, .int (y + 1)], .tup [.int x, .int (y + 1)]] :=
  tup3_eq (z := lt1 2) (by show x + 1 + -1 = x; omega) (by show y + 1 + 0 = y + 1; omega) (by show x + 1 - 1 = x; omega) rfl
theorem sv3 (x y : Int) : sv (sdP (x, y) 3) 3 = .tup [.str (Str.ofString "s"), .tup [.int x, .int y], .tup [.int (x - 1), .int y]] :=
  tup3_eq (z := lt1 3) (by show x + 0 = x; omega) (by show y + 1 + -1 = y; omega) rfl (by show y + 1 - 1 = y; omega)
/-- one look at a side -/
theorem look_is {S : List Pt} {val : Pt → Nat → D} {i k : Nat} {c : Pt} {H : Hp3} {p : Addr} {tk ka va : TE3} {E : Ends3} {σ : St3} {v : D} {x y ox oy : Int} (g : Dg S) (hc : S[i]? = some c) (hk : k < 4) (hi : i ≤ 20) (h : ∃ kvs, Lb S val i k kvs ∧ H p = some (.dic (tabV kvs)))
    (s0 : σ[0]? = some (some (.tup (S.map prP)))) (s1 : σ[1]? = some (some (.ref p))) (e1 : ∀ (H : Hp3) (Q : VK3), Q (.tup [.int ox, .int oy]) H → tk σ H Q) (e2 : ∀ (H : Hp3) (Q : VK3), Q (.tup [.int x, .int y]) H → ka σ H Q) (e3 : ∀ (H : Hp3) (Q : VK3), Q v H → va σ H Q)
    (ev : v = val (sdP c k) k) (ex : (x, y) = sdP c k) (eo : (ox, oy) = sdO c k) (h1 : ∀ H' : Hp3, (∀ q, q ≠ p → H' q = H q) → (∃ kvs, Lb S val i (k + 1) kvs ∧ H' p = some (.dic (tabV kvs))) → E.nx σ H') :
    is3 (ts3 (o3 (r3inX true) tk (v3 0))) (dp3 (v3 1) ka va) nx3 E σ H := by
  obtain ⟨kvs, hb, hH⟩ := h
  refine g_is (g_ts (g_o3 (e1 H _ (g_v3 s0 (g_ninX (ps := S) rfl (g_bt ?_))))))
  rw [eo]
  refine ifN (fun z => ?_) fun z => ?_
  · refine g_dp (e3 _ _ (g_v3 s1 (e2 _ _ (g_dpV hH (by have := hb.len; omega) (h1 _ (fun q hq => upd3_ne hq) ⟨_, ?_, upd3_same⟩)))))
    rw [ev, ex]; exact hb.put g hc hk z
  · exact h1 H (fun _ _ => rfl) ⟨kvs, hb.skip hc z, hH⟩
def sp_l_border : Sp3 := fun ds H Q => match ds with
  | [.tup xs] => ∃ S s0, (xs = S.map prP ∧ S[0]? = some s0 ∧ S.length ≤ 20 ∧ One S ∧ Crn S s0) ∧ ∀ t p, Rnd S s0 t → t ≤ 80 → H p = none → Q (.ref p) (upd3 H p (.lst ((List.range t).map fun i => D.tup [.str (lt1 (ltN (outD S (itr S s0 i)))), prP (itr S s0 i), prP (rgt (itr S s0 i) (outD S (itr S s0 i)))])))
  | _ => False
theorem u_l_border {S : List Pt} {s0 : Pt} {H : Hp3} {Q : VK3} (h0 : S[0]? = some s0) (hl : S.length ≤ 20) (g : One S) (hcr : Crn S s0) (h : ∀ t p, Rnd S s0 t → t ≤ 80 → H p = none → Q (.ref p) (upd3 H p (.lst ((List.range t).map fun i => D.tup [.str (lt1 (ltN (outD S (itr S s0 i)))), prP (itr S s0 i), prP (rgt (itr S s0 i) (outD S (itr S s0 i)))])))) : sp_l_border [.tup (S.map prP)] H Q := ⟨S, s0, ⟨rfl, h0, hl, g, hcr⟩, h⟩
theorem len_l_border : ∀ (ds : List D) (H : Hp3) (Q : VK3), sp_l_border ds H Q → ds.length = P_l_border.length := by
  intro ds H Q h
  unfold sp_l_border at h
  split at h
  · rfl
  · exact h.elim

def lp_l_border_0 : TS3 := fo3 (it3 (v3 0)) (g2_3 2 3) (sq3 (is3 (ts3 (o3 (r3inX true) (tp3 (cons3 (v3 2) (cons3 (o3 i3sub (v3 3) (c3 (.int 1))) nil3))) (v3 0))) (dp3 (v3 1) (tp3 (cons3 (v3 2) (cons3 (v3 3) nil3))) (tp3 (cons3 (c3 (.str "e")) (cons3 (tp3 (cons3 (o3 r3add (v3 2) (c3 (.int 1))) (cons3 (v3 3) nil3))) (cons3 (tp3 (cons3 (v3 2) (cons3 (o3 i3sub (v3 3) (c3 (.int 1))) nil3))) nil3))))) nx3)
    (sq3 (is3 (ts3 (o3 (r3inX true) (tp3 (cons3 (o3 r3add (v3 2) (c3 (.int 1))) (cons3 (v3 3) nil3))) (v3 0))) (dp3 (v3 1) (tp3 (cons3 (o3 r3add (v3 2) (c3 (.int 1))) (cons3 (v3 3) nil3))) (tp3 (cons3 (c3 (.str "n")) (cons3 (tp3 (cons3 (o3 r3add (v3 2) (c3 (.int 1))) (cons3 (o3 r3add (v3 3) (c3 (.int 1))) nil3))) (cons3 (tp3 (cons3 (o3 r3add (v3 2) (c3 (.int 1))) (cons3 (v3 3) nil3))) nil3))))) nx3)
    (sq3 (is3 (ts3 (o3 (r3inX true) (tp3 (cons3 (v3 2) (cons3 (o3 r3add (v3 3) (c3 (.int 1))) nil3))) (v3 0))) (dp3 (v3 1) (tp3 (cons3 (o3 r3add (v3 2) (c3 (.int 1))) (cons3 (o3 r3add (v3 3) (c3 (.int 1))) nil3))) (tp3 (cons3 (c3 (.str "w")) (cons3 (tp3 (cons3 (v3 2) (cons3 (o3 r3add (v3 3) (c3 (.int 1))) nil3))) (cons3 (tp3 (cons3 (v3 2) (cons3 (o3 r3add (v3 3) (c3 (.int 1))) nil3))) nil3))))) nx3)
    (is3 (ts3 (o3 (r3inX true) (tp3 (cons3 (o3 i3sub (v3 2) (c3 (.int 1))) (cons3 (v3 3) nil3))) (v3 0))) (dp3 (v3 1) (tp3 (cons3 (v3 2) (cons3 (o3 r3add (v3 3) (c3 (.int 1))) nil3))) (tp3 (cons3 (c3 (.str "s")) (cons3 (tp3 (cons3 (v3 2) (cons3 (v3 3) nil3))) (cons3 (tp3 (cons3 (o3 i3sub (v3 2) (c3 (.int 1))) (cons3 (v3 3) nil3))) nil3))))) nx3))))
def lp_l_border_1 : TS3 := fo3 (ir1 (cb3 r3lenD (cons3 (v3 1) nil3))) (gn3 6) (sq3 (dr3 (m3 r3app (v3 4) (cons3 (tp3 (cons3 (o3 r3ix (dg3 (v3 1) (v3 5)) (c3 (.int 0))) (cons3 (v3 5) (cons3 (o3 r3ix (dg3 (v3 1) (v3 5)) (c3 (.int 2))) nil3)))) nil3)))
    (st3 5 (o3 r3ix (dg3 (v3 1) (v3 5)) (c3 (.int 1)))))
def t_l_border : TS3 := (sq3 (st3 1 dn3)
    (sq3 lp_l_border_0
    (sq3 (st3 4 (ls3 nil3))
    (sq3 (st3 5 (o3 r3ix (v3 0) (c3 (.int 0))))
    (sq3 lp_l_border_1
    (rt3 (v3 4)))))))
theorem rd_l_border : ∀ (ds : List D) (H : Hp3) (Q : VK3), sp_l_border ds H Q → t_l_border (fin3 Q) (start3 N_l_border ds) H := by
  intro ds H Q h
  unfold sp_l_border at h
  split at h
  case h_2 => exact h.elim
  obtain ⟨S, s0, ⟨rfl, h0, hl, g, hcr⟩, h⟩ := h
  simp only [t_l_border, start3, N_l_border, List.map_cons, List.map_nil, List.length_cons, List.length_nil, Nat.reduceAdd, Nat.reduceSub, Nat.zero_add, List.replicate, List.cons_append, List.nil_append]
  walk_at "l3"
  intro p hp
  walk_at "l3"
  unfold lp_l_border_0
  walk_at "l3"
  refine Lp.by (fun i σ H2 => Sub3 H H2 ∧ (∃ kvs : List (Pt × D), Lb S sv i 0 kvs ∧ H2 p = some (.dic (tabV kvs))) ∧ ∃ x y, σ = [some (.tup (S.map prP)), some (.ref p), x, y, none, none, none]) ⟨Sub3.fresh hp, ⟨[], Lb.nil, upd3_same⟩, _, _, rfl⟩ (fun _ _ _ _ _ => trivial) ?_ ?_
  · rintro i d σ H2 hd ⟨sb, hb0, x0, y0, rfl⟩
    rw [List.getElem?_map, Option.map_eq_some_iff] at hd
    obtain ⟨c, hc, rfl⟩ := hd
    have hi := (List.getElem?_eq_some_iff.mp hc).1
    obtain ⟨x, y⟩ := c
    unfold prP
    refine g_g2 ?_
    dsimp only [List.set_cons_zero, List.set_cons_succ]
    have fr : ∀ {Ha Hb : Hp3}, (∀ q, q ≠ p → Hb q = Ha q) → Sub3 H Ha → Sub3 H Hb := fun k sb q o hq => by rw [k q (fun e => by rw [e, hp] at hq; cases hq)]; exact sb q o hq
    refine g_sq (look_is g.dg hc (k := 0) (by omega) (by omega) hb0 rfl rfl (fun H3 Q3 q3 => by walk_at "l3"; exact q3) (fun H3 Q3 q3 => by walk_at "l3"; exact q3) (fun H3 Q3 q3 => by walk_at "l3"; exact q3) (sv0 x y).symm rfl rfl fun H3 k3 hb1 => ?_)
    refine g_nx ?_
    refine g_sq (look_is g.dg hc (k := 1) (by omega) (by omega) hb1 rfl rfl (fun H3 Q3 q3 => by walk_at "l3"; exact q3) (fun H3 Q3 q3 => by walk_at "l3"; exact q3) (fun H3 Q3 q3 => by walk_at "l3"; exact q3) (sv1 x y).symm rfl rfl fun H4 k4 hb2 => ?_)
    refine g_nx ?_
    refine g_sq (look_is g.dg hc (k := 2) (by omega) (by omega) hb2 rfl rfl (fun H3 Q3 q3 => by walk_at "l3"; exact q3) (fun H3 Q3 q3 => by walk_at "l3"; exact q3) (fun H3 Q3 q3 => by walk_at "l3"; exact q3) (sv2 x y).symm rfl rfl fun H5 k5 hb3 => ?_)
    refine g_nx ?_
    refine look_is g.dg hc (k := 3) (by omega) (by omega) hb3 rfl rfl (fun H3 Q3 q3 => by walk_at "l3"; exact q3) (fun H3 Q3 q3 => by walk_at "l3"; exact q3) (fun H3 Q3 q3 => by walk_at "l3"; exact q3) (sv3 x y).symm rfl rfl fun H6 k6 hb4 => ?_
    obtain ⟨kvs, hb, hH⟩ := hb4
    exact ⟨fr k6 (fr k5 (fr k4 (fr k3 sb))), ⟨kvs, hb.next, hH⟩, _, _, rfl⟩
  · rintro σ H2 ⟨sb, ⟨kvs, hb, hH⟩, x0, y0, rfl⟩
    rw [List.length_map] at hb
    obtain ⟨t, r⟩ := g.rnd hcr
    have ht : kvs.length = t := by have := r.len hcr hb.nd hb.all; rw [List.length_map] at this; exact this
    have ht80 : t ≤ 80 := by have := hb.len; omega
    walk_at "l3"
    intro p2 hp2
    have n2 : p ≠ p2 := ne3 hH hp2
    have hp0 : H p2 = none := sub_back sb hp2
    walk_at "l3"
    refine g_ixT (at_first h0) ?_
    walk_at "l3"
    unfold lp_l_border_1
    walk_at "l3"
    refine g_lenD (upd3_old hH hp2) ?_
    walk_at "l3"
    rw [tabV_len, ht, Int.toNat_natCast]
    refine Lp.rng (fun i σ H3 => H3 p = some (.dic (tabV kvs)) ∧ Sub3 H H3 ∧ H3 p2 = some (.lst ((List.range i).map fun i => D.tup [.str (lt1 (ltN (outD S (itr S s0 i)))), prP (itr S s0 i), prP (rgt (itr S s0 i) (outD S (itr S s0 i)))])) ∧ ∃ k, σ = [some (.tup (S.map prP)), some (.ref p), x0, y0, some (.ref p2), some (.tup [.int (itr S s0 i).1, .int (itr S s0 i).2]), k]) ⟨upd3_old hH hp2, sb.upd hp0, upd3_same, _, rfl⟩ ?_ ?_
    · rintro i σ H3 hi ⟨hH3, sb3, h2, k, rfl⟩
      have hlk := hb.at (crn_itr hcr i)
      walk_at "l3"
      refine g_dgk hH3 hlk ?_
      unfold sv prP
      walk_at "l3"
      refine g_dgk hH3 hlk ?_
      unfold sv prP
      walk_at "l3"
      refine g_app h2 (small1000' (by rw [List.length_map, List.length_range]; omega)) ?_
      walk_at "l3"
      refine g_dgk (by rw [upd3_ne n2]; exact hH3) hlk ?_
      unfold sv prP
      walk_at "l3"
      refine ⟨by rw [upd3_ne n2]; exact hH3, fun q o hq => by rw [upd3_ne (fun e => by rw [e, hp0] at hq; cases hq)]; exact sb3 q o hq, ?_, _, rfl⟩
      rw [upd3_same, List.range_succ, List.map_append]; rfl
    · rintro σ H3 ⟨hH3, sb3, h2, k, rfl⟩
      walk_at "l3"
      exact g_fin (h t p2 r ht80 hp0) (sub_upd sb3 h2)

def sp_corners_of : Sp3 := fun ds H Q => match ds with
  | [.tup [.int x, .int y], .str z] => ∃ ls : List Lt, (z = wStr ls ∧ ls.length ≤ 500) ∧ ∀ p, H p = none → Q (.ref p) (upd3 H p (.lst ((path (x, y) ls).map prP)))
  | _ => False
theorem u_corners_of {x y : Int} (ls : List Lt) {H : Hp3} {Q : VK3} (hl : ls.length ≤ 500) (h : ∀ p, H p = none → Q (.ref p) (upd3 H p (.lst ((path (x, y) ls).map prP)))) : sp_corners_of [.tup [.int x, .int y], .str (wStr ls)] H Q := ⟨ls, ⟨rfl, hl⟩, h⟩
theorem steps_at (l : Lt) : c_STEPS.lookup (lt1 l) = some (.ktup [.int (step l).1, .int (step l).2]) := by
  revert l; intro l; match l with
  | 0 => rfl
  | 1 => rfl
  | 2 => rfl
  | 3 => rfl
theorem len_corners_of : ∀ (ds : List D) (H : Hp3) (Q : VK3), sp_corners_of ds H Q → ds.length = P_corners_of.length := by
  intro ds H Q h
  unfold sp_corners_of at h
  split at h
  · rfl
  · exact h.elim

def lp_corners_of_0 : TS3 := fo3 (iz3 (v3 1)) (gn3 3) (dr3 (m3 r3app (v3 2) (cons3 (cb3 sp_added (cons3 (o3 r3ix (v3 2) (u3 r3neg (c3 (.int 1)))) (cons3 (kd3 c_STEPS (v3 3)) nil3))) nil3)))
def t_corners_of : TS3 := (sq3 (st3 2 (ls3 (cons3 (v3 0) nil3)))
    (sq3 lp_corners_of_0
    (rt3 (v3 2))))
theorem rd_corners_of : ∀ (ds : List D) (H : Hp3) (Q : VK3), sp_corners_of ds H Q → t_corners_of (fin3 Q) (start3 N_corners_of ds) H := by
  intro ds H Q h
  unfold sp_corners_of at h
  split at h
  case h_2 => exact h.elim
  rename_i x y z
  obtain ⟨ls, ⟨rfl, hl⟩, h⟩ := h
  simp only [t_corners_of, start3, N_corners_of, List.map_cons, List.map_nil, List.length_cons, List.length_nil, Nat.reduceAdd, Nat.reduceSub, Nat.zero_add, List.replicate, List.cons_append, List.nil_append]
  walk_at "l3"
  intro p hp
  walk_at "l3"
  unfold lp_corners_of_0
  walk_at "l3"
  rw [lets_w]
  refine Lp.by (fun i σ H2 => H2 = upd3 H p (.lst ((path (x, y) (ls.take i)).map prP)) ∧ ∃ c, σ = [some (.tup [.int x, .int y]), some (.str (wStr ls)), some (.ref p), c]) ⟨by rw [List.take_zero]; rfl, _, rfl⟩ (fun _ _ _ _ _ => trivial) ?_ ?_
  · rintro i d σ H2 hd ⟨rfl, c, rfl⟩
    rw [List.getElem?_map, Option.map_eq_some_iff] at hd
    obtain ⟨l, hl2, rfl⟩ := hd
    walk_at "l3"
    refine g_ixL upd3_same (path_last _ _) ?_
    walk_at "l3"
    refine g_kdk (steps_at l) ?_
    walk_at "l3"
    refine g_app upd3_same (small1000' (by rw [List.length_map, path_len, List.length_take]; omega)) ?_
    rw [upd3_upd3]
    walk_at "l3"
    have ht : ls.take (i + 1) = ls.take i ++ [l] := by rw [List.take_add_one, hl2]; rfl
    refine ⟨?_, _, rfl⟩
    rw [ht, path_snoc, List.map_append]
    rfl
  · rintro σ H2 ⟨rfl, c, rfl⟩
    rw [List.length_map, List.take_of_length_le (Nat.le_refl _)]
    walk_at "l3"
    exact g_fin (h p hp) Sub3.refl

def ltD (_ : Pt) (d : Nat) : D := .str (lt1 (ltN d))
def sp_letters_by_corner : Sp3 := fun ds H Q => match ds with
  | [.tup xs] => ∃ S : List Pt, (xs = S.map prP ∧ S.length ≤ 20 ∧ Dg S) ∧ ∀ p kvs, H p = none → Lb S ltD S.length 0 kvs → Q (.ref p) (upd3 H p (.dic (tabV kvs)))
  | _ => False
theorem u_letters_by_corner {S : List Pt} {H : Hp3} {Q : VK3} (hl : S.length ≤ 20) (g : Dg S) (h : ∀ p kvs, H p = none → Lb S ltD S.length 0 kvs → Q (.ref p) (upd3 H p (.dic (tabV kvs)))) : sp_letters_by_corner [.tup (S.map prP)] H Q := ⟨S, ⟨rfl, hl, g⟩, h⟩
theorem len_letters_by_corner : ∀ (ds : List D) (H : Hp3) (Q : VK3), sp_letters_by_corner ds H Q → ds.length = P_letters_by_corner.length := by
  intro ds H Q h
  unfold sp_letters_by_corner at h
  split at h
  · rfl
  · exact h.elim

def lp_letters_by_corner_0 : TS3 := fo3 (il3 (cb3 sp_sides_of (cons3 (v3 2) nil3))) (gn3 3) (is3 (ts3 (o3 (r3inX true) (o3 r3ix (v3 3) (c3 (.int 2))) (v3 0))) (dp3 (v3 1) (o3 r3ix (v3 3) (c3 (.int 0))) (o3 r3ix (v3 3) (c3 (.int 1)))) nx3)
def lp_letters_by_corner_1 : TS3 := fo3 (it3 (v3 0)) (gn3 2) lp_letters_by_corner_0
def t_letters_by_corner : TS3 := (sq3 (st3 1 dn3)
    (sq3 lp_letters_by_corner_1
    (rt3 (v3 1))))
theorem rd_letters_by_corner : ∀ (ds : List D) (H : Hp3) (Q : VK3), sp_letters_by_corner ds H Q → t_letters_by_corner (fin3 Q) (start3 N_letters_by_corner ds) H := by
  intro ds H Q h
  unfold sp_letters_by_corner at h
  split at h
  case h_2 => exact h.elim
  obtain ⟨S, ⟨rfl, hl, g⟩, h⟩ := h
  simp only [t_letters_by_corner, start3, N_letters_by_corner, List.map_cons, List.map_nil, List.length_cons, List.length_nil, Nat.reduceAdd, Nat.reduceSub, Nat.zero_add, List.replicate, List.cons_append, List.nil_append]
  walk_at "l3"
  intro p hp
  walk_at "l3"
  unfold lp_letters_by_corner_1
  walk_at "l3"
  refine Lp.by (fun i σ H2 => Sub3 H H2 ∧ ∃ kvs : List (Pt × D), ∃ x y, Lb S ltD i 0 kvs ∧ H2 p = some (.dic (tabV kvs)) ∧ σ = [some (.tup (S.map prP)), some (.ref p), x, y]) ⟨Sub3.fresh hp, [], _, _, Lb.nil, upd3_same, rfl⟩ (fun _ _ _ _ _ => trivial) ?_ ?_
  · rintro i d σ H2 hd ⟨sb, kvs, x, y, hb, hH, rfl⟩
    rw [List.getElem?_map, Option.map_eq_some_iff] at hd
    obtain ⟨c, hc, rfl⟩ := hd
    have hi := (List.getElem?_eq_some_iff.mp hc).1
    obtain ⟨c1, c2⟩ := c
    unfold prP
    walk_at "l3"
    unfold lp_letters_by_corner_0
    walk_at "l3"
    refine u_sides_of fun p2 hp2 => ?_
    walk_at "l3"
    have n2 : p ≠ p2 := ne3 hH hp2
    refine Lp.by (fun k σ H3 => Sub3 H H3 ∧ H3 p2 = some (.lst ((List.range 4).map (sdD (c1, c2)))) ∧ ∃ kvs : List (Pt × D), ∃ y, Lb S ltD i k kvs ∧ H3 p = some (.dic (tabV kvs)) ∧ σ = [some (.tup (S.map prP)), some (.ref p), some (.tup [.int c1, .int c2]), y]) ⟨sb.trans (Sub3.fresh hp2), upd3_same, kvs, _, hb, upd3_old hH hp2, rfl⟩ (fun k σ H3 _ z => z.2.1) ?_ ?_
    · rintro k d σ H3 hd ⟨sb3, h2, kvs, y, hb, hH, rfl⟩
      have hk : k < 4 := by have := (List.getElem?_eq_some_iff.mp hd).1; simpa using this
      rw [List.getElem?_map, List.getElem?_range hk, Option.map_some] at hd
      cases hd
      unfold sdD
      walk_at "l3"
      unfold prP
      refine g_ninX (ps := S) rfl ?_
      refine ifN (fun z => ?_) fun z => ?_
      · walk_at "l3"
        refine g_dpV hH (by have := hb.len; omega) ?_
        walk_at "l3"
        refine ⟨fun q o hq => by rw [upd3_ne (fun e => by rw [e, hp] at hq; cases hq)]; exact sb3 q o hq, by rw [upd3_ne n2.symm]; exact h2, _, _, hb.put g hc hk z, upd3_same, rfl⟩
      · walk_at "l3"
        exact ⟨sb3, h2, kvs, _, hb.skip hc z, hH, rfl⟩
    · rintro σ H3 ⟨sb3, h2, kvs, y, hb, hH, rfl⟩
      walk_at "l3"
      exact ⟨sb3, kvs, _, _, hb.next, hH, rfl⟩
  · rintro σ H2 ⟨sb, kvs, x, y, hb, hH, rfl⟩
    rw [List.length_map] at hb
    walk_at "l3"
    exact g_fin (h p kvs hp hb) (sub_upd sb hH)

def mix (ns : List Int) (k : Int) : Int := (ns.getD k.toNat 0 + 7 * k * k + 11) * 48271 % 2147483647 * 69621 % 1000000007
def sp_l_mix : Sp3 := fun ds H Q => match ds with
  | [.fl xs, .int k] => (match intsOf xs with
    | some ns => (0 ≤ k ∧ k ≤ 1000) ∧ Q (.int (mix ns k)) H
    | none => False)
  | _ => False
theorem u_l_mix {ns : List Int} {k : Int} {H : Hp3} {Q : VK3} (hk : 0 ≤ k) (h1 : k ≤ 1000) (h : Q (.int (mix ns k)) H) : sp_l_mix [.fl (ns.map D.int), .int k] H Q := by
  simp only [sp_l_mix, intsOf_map]; exact ⟨⟨hk, h1⟩, h⟩
theorem len_l_mix : ∀ (ds : List D) (H : Hp3) (Q : VK3), sp_l_mix ds H Q → ds.length = P_l_mix.length := by
  intro ds H Q h
  unfold sp_l_mix at h
  split at h
  · rfl
  · exact h.elim

def t_l_mix : TS3 := (rt3 (o3 i3mod (o3 i3mulW (o3 i3mod (o3 i3mulW (o3 r3add (o3 r3add (cb3 sp_l_cell_at (cons3 (v3 0) (cons3 (v3 1) nil3))) (o3 i3mulW (o3 i3mulW (c3 (.int 7)) (v3 1)) (v3 1))) (c3 (.int 11))) (c3 (.int 48271))) (c3 (.int 2147483647))) (c3 (.int 69621))) (c3 (.int 1000000007))))
theorem rd_l_mix : ∀ (ds : List D) (H : Hp3) (Q : VK3), sp_l_mix ds H Q → t_l_mix (fin3 Q) (start3 N_l_mix ds) H := by
  intro ds H Q h
  unfold sp_l_mix at h
  split at h
  case h_2 => exact h.elim
  rename_i xs k
  split at h
  case h_2 => exact h.elim
  rename_i ns e
  have e' := intsOf_inv e
  subst e'
  obtain ⟨⟨hk, hk1⟩, h⟩ := h
  simp only [t_l_mix, start3, N_l_mix, List.map_cons, List.map_nil, List.length_cons, List.length_nil, Nat.reduceAdd, Nat.reduceSub, Nat.zero_add, List.replicate, List.cons_append, List.nil_append]
  walk_at "l3"
  exact g_fin h Sub3.refl

def sp_l_is_pair : Sp3 := fun ds H Q => match ds with
  | [.tup [.int _, .int _]] => Q (.bl true) H
  | _ => False
theorem u_l_is_pair {i j : Int} {H : Hp3} {Q : VK3} (h : Q (.bl true) H) : sp_l_is_pair [.tup [.int i, .int j]] H Q := h
local macro_rules | `(tactic| walk_at "l3c") => `(tactic| (with_reducible refine u_l_is_pair ?_))
theorem len_l_is_pair : ∀ (ds : List D) (H : Hp3) (Q : VK3), sp_l_is_pair ds H Q → ds.length = P_l_is_pair.length := by
  intro ds H Q h
  unfold sp_l_is_pair at h
  split at h
  · rfl
  · exact h.elim

def t_l_is_pair : TS3 := (rt3 (av3 (cb3 r3isi (cons3 (v3 0) (cons3 (c3 (.ty "tuple")) nil3))) (av3 (o3 r3eq (cb3 r3len (cons3 (v3 0) nil3)) (c3 (.int 2))) (av3 (cb3 sp_l_whole (cons3 (o3 r3ix (v3 0) (c3 (.int 0))) nil3)) (cb3 sp_l_whole (cons3 (o3 r3ix (v3 0) (c3 (.int 1))) nil3))))))
theorem rd_l_is_pair : ∀ (ds : List D) (H : Hp3) (Q : VK3), sp_l_is_pair ds H Q → t_l_is_pair (fin3 Q) (start3 N_l_is_pair ds) H := by
  intro ds H Q h
  unfold sp_l_is_pair at h
  split at h
  case h_2 => exact h.elim
  simp only [t_l_is_pair, start3, N_l_is_pair, List.map_cons, List.map_nil, List.length_cons, List.length_nil, Nat.reduceAdd, Nat.reduceSub, Nat.zero_add, List.replicate, List.cons_append, List.nil_append]
  walk_at "l3"
  refine ifY rfl ?_
  walk_at "l3"
  refine ifY rfl ?_
  walk_at "l3"
  refine ifY rfl ?_
  walk_at "l3"
  exact g_fin h Sub3.refl

def wd (S : List Pt) (p : Pt) (t : Nat) : List Lt := (List.range t).map fun i => ltN (outD S (itr S p i))
theorem wd_len (S : List Pt) (p : Pt) (t : Nat) : (wd S p t).length = t := by unfold wd; rw [List.length_map, List.length_range]
theorem wd_snoc (S : List Pt) (p : Pt) (t : Nat) : wd S p (t + 1) = wd S p t ++ [ltN (outD S (itr S p t))] := by unfold wd; rw [List.range_succ, List.map_append]; rfl
theorem wd_take (S : List Pt) (p : Pt) {t i : Nat} (h : i ≤ t) : (wd S p t).take i = wd S p i := by unfold wd; rw [← List.map_take, List.take_range, Nat.min_eq_left h]
theorem endp_wd (S : List Pt) (p : Pt) : ∀ t, endp p (wd S p t) = itr S p t
  | 0 => rfl
  | t + 1 => by
    rw [wd_snoc, endp_snoc, endp_wd S p t, step_ltN outD_lt]
    exact Prod.ext rfl rfl
def sp_border_of : Sp3 := fun ds H Q => match ds with
  | [.tup xs] => ∃ S s0, (xs = S.map prP ∧ S[0]? = some s0 ∧ S.length ≤ 20 ∧ One S ∧ Crn S s0) ∧ ∀ t, Rnd S s0 t → t ≤ 80 → Q (.tup [.tup [.int s0.1, .int s0.2], .str (wStr (wd S s0 t))]) H
  | _ => False
theorem u_border_of {S : List Pt} {s0 : Pt} {H : Hp3} {Q : VK3} (h0 : S[0]? = some s0) (hl : S.length ≤ 20) (g : One S) (hcr : Crn S s0) (h : ∀ t, Rnd S s0 t → t ≤ 80 → Q (.tup [.tup [.int s0.1, .int s0.2], .str (wStr (wd S s0 t))]) H) : sp_border_of [.tup (S.map prP)] H Q := ⟨S, s0, ⟨rfl, h0, hl, g, hcr⟩, h⟩
theorem len_border_of : ∀ (ds : List D) (H : Hp3) (Q : VK3), sp_border_of ds H Q → ds.length = P_border_of.length := by
  intro ds H Q h
  unfold sp_border_of at h
  split at h
  · rfl
  · exact h.elim

def lp_border_of_0 : TS3 := wh3 (or3 (ts3 (o3 r3eq (v3 3) (c3 (.str "")))) (ts3 (o3 r3ne (v3 4) (v3 2)))) (sq3 (st3 5 (dg3 (v3 1) (v3 4)))
    (sq3 (au3 3 r3iadd (v3 5))
    (st3 4 (cb3 sp_added (cons3 (v3 4) (cons3 (kd3 c_STEPS (v3 5)) nil3))))))
def t_border_of : TS3 := (sq3 (st3 1 (cb3 sp_letters_by_corner (cons3 (v3 0) nil3)))
    (sq3 (st3 2 (o3 r3ix (v3 0) (c3 (.int 0))))
    (sq3 (st3 3 (c3 (.str "")))
    (sq3 (st3 4 (v3 2))
    (sq3 lp_border_of_0
    (rt3 (tp3 (cons3 (v3 2) (cons3 (v3 3) nil3)))))))))
theorem rd_border_of : ∀ (ds : List D) (H : Hp3) (Q : VK3), sp_border_of ds H Q → t_border_of (fin3 Q) (start3 N_border_of ds) H := by
  intro ds H Q h
  unfold sp_border_of at h
  split at h
  case h_2 => exact h.elim
  obtain ⟨S, s0, ⟨rfl, h0, hl, g, hcr⟩, h⟩ := h
  simp only [t_border_of, start3, N_border_of, List.map_cons, List.map_nil, List.length_cons, List.length_nil, Nat.reduceAdd, Nat.reduceSub, Nat.zero_add, List.replicate, List.cons_append, List.nil_append]
  walk_at "l3"
  refine u_letters_by_corner hl g.dg fun p kvs hp hb => ?_
  obtain ⟨t, r⟩ := g.rnd hcr
  have ht : kvs.length = t := by have := r.len hcr hb.nd hb.all; rw [List.length_map] at this; exact this
  have ht80 : t ≤ 80 := by have := hb.len; omega
  have h := h t r ht80
  walk_at "l3"
  refine g_ixT (at_first h0) ?_
  walk_at "l3"
  unfold lp_border_of_0
  refine g_wh (fun σ H2 => H2 = upd3 H p (.dic (tabV kvs)) ∧ ∃ i, i ≤ t ∧ ∃ l, σ = [some (.tup (S.map prP)), some (.ref p), some (.tup [.int s0.1, .int s0.2]), some (.str (wStr (wd S s0 i))), some (.tup [.int (itr S s0 i).1, .int (itr S s0 i).2]), l]) (fun σ _ => match σ with | [_, _, _, some (.str z), _, _] => t - z.length | _ => 0) ⟨rfl, 0, by omega, _, rfl⟩ ?_
  rintro σ H2 ⟨rfl, i, hi, l, rfl⟩
  walk_at "l3"
  refine g_eqW (bs := []) ?_
  walk_at "l3"
  by_cases i0 : i = 0
  · refine ifD (fun _ => ?_) fun z => absurd (by subst i0; rfl) z
    have hit : i < t := by have := r.pos; omega
    walk_at "l3"
    refine g_dgk upd3_same (hb.at (crn_itr hcr i)) ?_
    unfold ltD
    walk_at "l3"
    refine g_iaddZ (by rw [wStr_len, wd_len, sizeLine_n]; show i + 1 ≤ _; omega) ?_
    walk_at "l3"
    refine g_kdk (steps_at _) ?_
    walk_at "l3"
    refine ⟨⟨rfl, i + 1, by omega, some (.str (lt1 (ltN (outD S (itr S s0 i))))), ?_⟩, ?_⟩
    · rw [show wStr (wd S s0 i) ++ lt1 (ltN (outD S (itr S s0 i))) = wStr (wd S s0 (i + 1)) from by rw [wd_snoc, ← wStr_app]; rfl, step_ltN outD_lt]
      rfl
    · show t - (wStr (wd S s0 i) ++ lt1 (ltN (outD S (itr S s0 i)))).length < t - (wStr (wd S s0 i)).length
      rw [show wStr (wd S s0 i) ++ lt1 (ltN (outD S (itr S s0 i))) = wStr (wd S s0 (i + 1)) from by rw [wd_snoc, ← wStr_app]; rfl, wStr_len, wStr_len, wd_len, wd_len]
      omega
  · refine ifD (fun z => absurd (congrArg List.length z) (by rw [wd_len]; exact i0)) fun _ => ?_
    walk_at "l3"
    refine ifN (fun z => ?_) fun z => ?_
    · have hit : i < t := by
        rcases Nat.lt_or_ge i t with y | y
        · exact y
        · exact absurd (by rw [show i = t from by omega]; exact r.back) z
      walk_at "l3"
      refine g_dgk upd3_same (hb.at (crn_itr hcr i)) ?_
      unfold ltD
      walk_at "l3"
      refine g_iaddZ (by rw [wStr_len, wd_len, sizeLine_n]; show i + 1 ≤ _; omega) ?_
      walk_at "l3"
      refine g_kdk (steps_at _) ?_
      walk_at "l3"
      refine ⟨⟨rfl, i + 1, by omega, some (.str (lt1 (ltN (outD S (itr S s0 i))))), ?_⟩, ?_⟩
      · rw [show wStr (wd S s0 i) ++ lt1 (ltN (outD S (itr S s0 i))) = wStr (wd S s0 (i + 1)) from by rw [wd_snoc, ← wStr_app]; rfl, step_ltN outD_lt]
        rfl
      · show t - (wStr (wd S s0 i) ++ lt1 (ltN (outD S (itr S s0 i)))).length < t - (wStr (wd S s0 i)).length
        rw [show wStr (wd S s0 i) ++ lt1 (ltN (outD S (itr S s0 i))) = wStr (wd S s0 (i + 1)) from by rw [wd_snoc, ← wStr_app]; rfl, wStr_len, wStr_len, wd_len, wd_len]
        omega
    · have hit : i = t := by
        rcases Nat.lt_or_ge i t with y | y
        · exact absurd z (r.not i (by omega) y)
        · omega
      subst hit
      walk_at "l3"
      exact g_fin h (Sub3.fresh hp)

def sp_l_pairs : Sp3 := fun ds H Q => match ds with
  | [.ref a, .ref b] => (∃ ps : List Pt, H a = some (.lst (ps.map prP)) ∧ H b = some (.lst (ps.map prP)) ∧ ps.length ≤ 1000) ∧ Q (.bl true) H
  | _ => False
theorem u_l_pairs {ps : List Pt} {a b : Addr} {H : Hp3} {Q : VK3} (ha : H a = some (.lst (ps.map prP))) (hb : H b = some (.lst (ps.map prP))) (hl : ps.length ≤ 1000) (h : Q (.bl true) H) : sp_l_pairs [.ref a, .ref b] H Q := ⟨⟨ps, ha, hb, hl⟩, h⟩
theorem len_l_pairs : ∀ (ds : List D) (H : Hp3) (Q : VK3), sp_l_pairs ds H Q → ds.length = P_l_pairs.length := by
  intro ds H Q h
  unfold sp_l_pairs at h
  split at h
  · rfl
  · exact h.elim

def lp_l_pairs_0 : TS3 := fo3 (ir1 (cb3 r3len (cons3 (v3 1) nil3))) (gn3 2) (is3 (or3 (no3 (ts3 (cb3 sp_l_is_pair (cons3 (o3 r3ix (v3 0) (v3 2)) nil3)))) (ts3 (o3 r3ne (o3 r3ix (v3 0) (v3 2)) (o3 r3ix (v3 1) (v3 2))))) (rt3 (c3 (.bl false))) nx3)
def t_l_pairs : TS3 := (sq3 (is3 (or3 (no3 (ts3 (cb3 r3isi (cons3 (v3 0) (cons3 (c3 (.ty "list")) nil3))))) (ts3 (o3 r3ne (cb3 r3len (cons3 (v3 0) nil3)) (cb3 r3len (cons3 (v3 1) nil3))))) (rt3 (c3 (.bl false))) nx3)
    (sq3 lp_l_pairs_0
    (rt3 (c3 (.bl true)))))
theorem rd_l_pairs : ∀ (ds : List D) (H : Hp3) (Q : VK3), sp_l_pairs ds H Q → t_l_pairs (fin3 Q) (start3 N_l_pairs ds) H := by
  intro ds H Q h
  unfold sp_l_pairs at h
  split at h
  case h_2 => exact h.elim
  rename_i a b
  obtain ⟨⟨ps, ha, hb, hl⟩, h⟩ := h
  simp only [t_l_pairs, start3, N_l_pairs, List.map_cons, List.map_nil, List.length_cons, List.length_nil, Nat.reduceAdd, Nat.reduceSub, Nat.zero_add, List.replicate, List.cons_append, List.nil_append]
  walk_at "l3"
  refine g_isi (U := "list") (by simp only [tyH, ha]) (by simp [kinds]) ?_
  walk_at "l3"
  refine ifX rfl ?_
  walk_at "l3"
  refine ifN (fun z => absurd rfl z) fun _ => ?_
  walk_at "l3"
  unfold lp_l_pairs_0
  walk_at "l3"
  have el : (((ps.map prP).length : Nat) : Int) = ps.length := by rw [List.length_map]
  rw [el]
  refine Lp.rng (fun i σ H2 => H2 = H ∧ ∃ k, σ = [some (.ref a), some (.ref b), k]) ⟨rfl, _, rfl⟩ ?_ ?_
  · rintro i σ H2 hi ⟨rfl, k, rfl⟩
    have hi' : ((0 : Int) + (i : Int)).toNat < ps.length := by simp only [Int.toNat_natCast] at hi; omega
    walk_at "l3"
    refine g_ixL ha (atI_map (by omega) hi') ?_
    unfold prP
    walk_at "l3"
    refine ifX rfl ?_
    walk_at "l3"
    refine g_ixL ha (atI_map (by omega) hi') ?_
    walk_at "l3"
    refine g_ixL hb (atI_map (by omega) hi') ?_
    unfold prP
    walk_at "l3"
    refine ifN (fun z => absurd rfl z) fun _ => ?_
    walk_at "l3"
    exact ⟨rfl, _, rfl⟩
  · rintro σ H2 ⟨rfl, k, rfl⟩
    walk_at "l3"
    exact g_fin h Sub3.refl

def gstep (ps : List Pt) (many : Int) (i j : Nat) : List Pt :=
  if (ps.length : Int) < many ∧ (beside (ps.getD i (0, 0))).getD j (0, 0) ∉ ps ∧ shuts ps ((beside (ps.getD i (0, 0))).getD j (0, 0)) = false then ps ++ [(beside (ps.getD i (0, 0))).getD j (0, 0)] else ps
def gr (ns : List Int) (at0 many : Int) : Nat → List Pt
  | 0 => [(0, 0)]
  | k + 1 => gstep (gr ns at0 many k) many (mix ns (at0 + (k : Int)) % ((gr ns at0 many k).length : Int)).toNat ((mix ns (at0 + (k : Int)) / 720) % 4).toNat
def grown (ns : List Int) (at0 many : Int) : List Pt := gr ns at0 many (3 * many).toNat
theorem gstep_len (ps : List Pt) (many : Int) (i j : Nat) : ps.length ≤ (gstep ps many i j).length := by
  unfold gstep; split
  · rw [List.length_append]; omega
  · exact Nat.le_refl _
theorem gstep_most {ps : List Pt} {many : Int} {i j : Nat} (h : (ps.length : Int) ≤ max many 1) : ((gstep ps many i j).length : Int) ≤ max many 1 := by
  unfold gstep; split
  · rename_i c; rw [List.length_append]; have := c.1; simp; omega
  · exact h
theorem gr_pos (ns : List Int) (at0 many : Int) : ∀ k, 1 ≤ (gr ns at0 many k).length
  | 0 => Nat.le_refl _
  | k + 1 => Nat.le_trans (gr_pos ns at0 many k) (gstep_len _ _ _ _)
theorem gr_most (ns : List Int) (at0 many : Int) : ∀ k, ((gr ns at0 many k).length : Int) ≤ max many 1
  | 0 => by show ((1 : Nat) : Int) ≤ _; omega
  | k + 1 => gstep_most (gr_most ns at0 many k)
theorem ring_one : ∀ e0 e1 e2 e3 e4 e5 e6 e7 : Bool,
    ((if (e0 && !(e7 && e6)) = true then 1 else 0) + (if (e2 && !(e1 && e0)) = true then 1 else 0) + (if (e4 && !(e3 && e2)) = true then 1 else 0) + (if (e6 && !(e5 && e4)) = true then 1 else 0) : Nat) ≤ 1 → (e0 && e2 && e4 && e6) = false →
    ((!e0 && e2 && !e4 && e6) = false ∧ (e0 && !e2 && e4 && !e6) = false) ∧ ((e0 && e2 && !e1) = false ∧ (e2 && e4 && !e3) = false ∧ (e4 && e6 && !e5) = false ∧ (e6 && e0 && !e7) = false) := by
  intro e0 e1 e2 e3 e4 e5 e6 e7
  cases e0 <;> cases e2 <;> cases e4 <;> cases e6 <;> cases e1 <;> cases e3 <;> cases e5 <;> cases e7 <;> decide
section
variable {S T : List Pt} {c : Pt}
def emp (S : List Pt) (q : Pt) : Bool := !decide (q ∈ S)
theorem emp_t {q : Pt} (h : q ∉ S) : emp S q = true := by unfold emp; simpa using h
theorem emp_f {q : Pt} (h : q ∈ S) : emp S q = false := by unfold emp; simpa using h
theorem rn_emp (S : List Pt) (c : Pt) : rn S c 4 = (((if (emp S (nb c 0) && !(emp S (dgl c 3) && emp S (nb c 3))) = true then 1 else 0) + (if (emp S (nb c 1) && !(emp S (dgl c 0) && emp S (nb c 0))) = true then 1 else 0) + (if (emp S (nb c 2) && !(emp S (dgl c 1) && emp S (nb c 1))) = true then 1 else 0) + (if (emp S (nb c 3) && !(emp S (dgl c 2) && emp S (nb c 2))) = true then 1 else 0) : Nat) : Int) := by
  have q0 : nb c 0 = (c.1 + 1, c.2) := by walk_at "pp"
  have q1 : nb c 1 = (c.1, c.2 + 1) := by walk_at "pp"
  have q2 : nb c 2 = (c.1 - 1, c.2) := by walk_at "pp"
  have q3 : nb c 3 = (c.1, c.2 - 1) := by walk_at "pp"
  have e : rn S c 4 = 0 + (if (emp S (c.1 + 1, c.2) && !(emp S (dgl c 3) && emp S (c.1, c.2 - 1))) = true then 1 else 0) + (if (emp S (c.1, c.2 + 1) && !(emp S (dgl c 0) && emp S (c.1 + 1, c.2))) = true then 1 else 0) + (if (emp S (c.1 - 1, c.2) && !(emp S (dgl c 1) && emp S (c.1, c.2 + 1))) = true then 1 else 0) + (if (emp S (c.1, c.2 - 1) && !(emp S (dgl c 2) && emp S (c.1 - 1, c.2))) = true then 1 else 0) := rfl
  rw [e, q0, q1, q2, q3, Int.zero_add]
  split <;> split <;> split <;> split <;> rfl
theorem low_cell : ∀ {S : List Pt}, S ≠ [] → ∃ m ∈ S, ∀ q ∈ S, m.2 ≤ q.2
  | [], h => absurd rfl h
  | a :: S, _ => by
    by_cases hS : S = []
    · subst hS; exact ⟨a, List.mem_cons_self, fun q hq => by rw [List.mem_singleton.mp hq]; exact Int.le_refl _⟩
    · obtain ⟨m, hm, h⟩ := low_cell hS
      by_cases g : a.2 ≤ m.2
      · refine ⟨a, List.mem_cons_self, fun q hq => ?_⟩
        rcases List.mem_cons.mp hq with rfl | hq
        · exact Int.le_refl _
        · exact Int.le_trans g (h q hq)
      · refine ⟨m, List.mem_cons_of_mem _ hm, fun q hq => ?_⟩
        rcases List.mem_cons.mp hq with rfl | hq
        · omega
        · exact h q hq
theorem not_four (h : One S) (hc : c ∉ S) (h0 : nb c 0 ∈ S) (h1 : nb c 1 ∈ S) (h2 : nb c 2 ∈ S) (h3 : nb c 3 ∈ S) : False := by
  have all : ∀ j, j < 4 → nb c j ∈ S := fun j hj => by rcases c4 hj with rfl | rfl | rfl | rfl <;> assumption
  have clo : ∀ q, Rch (RS S) (crn c 3) q → ∃ j, j < 4 ∧ q = crn c j := by
    intro q hq
    induction hq with
    | refl => exact ⟨3, by omega, rfl⟩
    | @step q r _ s ih =>
      obtain ⟨j, hj, rfl⟩ := ih
      obtain ⟨d, e, rfl⟩ := s
      have hj' : nx4 (nx4 (nx4 (nx4 j))) = j := nx4_4 hj
      obtain ⟨d', hd', e1, e2, e3⟩ := side_out (c := c) (j := nx4 (nx4 (nx4 j))) nx4_lt
      rw [hj'] at e1 e2 e3
      have : Edge S (crn c j) d' := ⟨hd', by rw [e1]; exact all _ nx4_lt, by rw [e2]; exact hc⟩
      have ed := edge_one h.dg e this
      subst ed
      exact ⟨_, nx4_lt, e3⟩
  obtain ⟨m, hm, hl⟩ := low_cell (List.ne_nil_of_mem h0)
  have em : Edge S (m.1, m.2) 0 := ⟨by omega, hm, fun z => by have := hl _ z; simp only [rgt0] at this; omega⟩
  have c3 : Crn S (crn c 3) := by
    have := crn_mixed (S := S) (p := crn c (nx4 2)) (meet_nb (c := c) (j := 2) (by omega)) (meet_c (c := c) nx4_lt) h2 hc
    exact this
  obtain ⟨j, hj, e⟩ := clo _ (h.all _ _ c3 ⟨0, em⟩)
  have e2 := congrArg Prod.snd e
  have l3 := hl _ h3
  rcases c4 hj with rfl | rfl | rfl | rfl <;> simp only [crn0, crn1, crn2, crn3, nb, stp3] at e2 l3 <;> omega
theorem one_add (h : One S) (hT : ∀ x, x ∈ T ↔ x ∈ S ∨ x = c) (hc : c ∉ S) (hs : shuts S c = false) {i : Nat} (hi : i < 4) (ha : nb c i ∈ S) : One T := by
  have hr : rn S c 4 ≤ 1 := by unfold shuts at hs; simpa using hs
  rw [rn_emp] at hr
  have hne : (emp S (nb c 0) && emp S (nb c 1) && emp S (nb c 2) && emp S (nb c 3)) = false := by
    have := emp_f ha
    rcases c4 hi with rfl | rfl | rfl | rfl <;> simp [this]
  obtain ⟨⟨k1, k2⟩, d0, d1, d2, d3⟩ := ring_one _ _ _ _ _ _ _ _ (by exact_mod_cast hr) hne
  have alt1 : ¬ (nb c 0 ∈ S ∧ nb c 2 ∈ S ∧ nb c 1 ∉ S ∧ nb c 3 ∉ S) := fun ⟨z0, z2, z1, z3⟩ => by rw [emp_f z0, emp_f z2, emp_t z1, emp_t z3] at k1; cases k1
  have alt2 : ¬ (nb c 1 ∈ S ∧ nb c 3 ∈ S ∧ nb c 0 ∉ S ∧ nb c 2 ∉ S) := fun ⟨z1, z3, z0, z2⟩ => by rw [emp_f z1, emp_f z3, emp_t z0, emp_t z2] at k2; cases k2
  have dge : ∀ j, j < 4 → nb c j ∉ S → nb c (nx4 j) ∉ S → dgl c j ∉ S := by
    intro j hj z1 z2 z3
    rcases c4 hj with rfl | rfl | rfl | rfl <;> simp only [nx40, nx41, nx42, nx43] at z2
    · rw [emp_t z1, emp_t z2, emp_f z3] at d0; cases d0
    · rw [emp_t z1, emp_t z2, emp_f z3] at d1; cases d1
    · rw [emp_t z1, emp_t z2, emp_f z3] at d2; cases d2
    · rw [emp_t z1, emp_t z2, emp_f z3] at d3; cases d3
  have cT : c ∈ T := (hT c).mpr (.inr rfl)
  have same : ∀ q, q ≠ c → (q ∈ T ↔ q ∈ S) := fun q hq => by rw [hT]; exact ⟨fun z => z.resolve_right hq, .inl⟩
  have meet4 : ∀ p, Meet p c → ∃ j, j < 4 ∧ p = crn c (nx4 j) := by
    intro p hp
    obtain ⟨p1, p2⟩ := p
    rcases hp with e | e | e | e <;> subst e
    · exact ⟨2, by omega, by walk_at "pp"⟩
    · exact ⟨3, by omega, by walk_at "pp"⟩
    · exact ⟨0, by omega, by walk_at "pp"⟩
    · exact ⟨1, by omega, by walk_at "pp"⟩
  have nne : ∀ j, j < 4 → nb c j ≠ c := by
    intro j hj e
    have e1 := congrArg Prod.fst e
    have e2 := congrArg Prod.snd e
    rcases c4 hj with rfl | rfl | rfl | rfl <;> simp only [nb, stp0, stp1, stp2, stp3] at e1 e2 <;> omega
  have dne : ∀ j, j < 4 → dgl c j ≠ c := by
    intro j hj e
    have e1 := congrArg Prod.fst e
    rcases c4 hj with rfl | rfl | rfl | rfl <;> simp only [dgl0, dgl1, dgl2, dgl3] at e1 <;> omega
  have dgT : Dg T := by
    intro p
    by_cases hp : Meet p c
    · obtain ⟨j, hj, rfl⟩ := meet4 p hp
      have k := dge j hj
      have n1 := same _ (nne j hj)
      have n2 := same _ (nne (nx4 j) nx4_lt)
      have n3 := same _ (dne j hj)
      rw [← n1, ← n2, ← n3] at k
      rcases c4 hj with rfl | rfl | rfl | rfl
      · rw [show ((crn c (nx4 0)).1, (crn c (nx4 0)).2) = dgl c 0 from by walk_at "pp", show ((crn c (nx4 0)).1 - 1, (crn c (nx4 0)).2 - 1) = c from by walk_at "pp", show ((crn c (nx4 0)).1 - 1, (crn c (nx4 0)).2) = nb c (nx4 0) from by walk_at "pp", show ((crn c (nx4 0)).1, (crn c (nx4 0)).2 - 1) = nb c 0 from by walk_at "pp"]
        exact ⟨fun ⟨z1, _, z3, z4⟩ => k z4 z3 z1, fun ⟨_, _, _, z4⟩ => z4 cT⟩
      · rw [show ((crn c (nx4 1)).1, (crn c (nx4 1)).2) = nb c 1 from by walk_at "pp", show ((crn c (nx4 1)).1 - 1, (crn c (nx4 1)).2 - 1) = nb c (nx4 1) from by walk_at "pp", show ((crn c (nx4 1)).1 - 1, (crn c (nx4 1)).2) = dgl c 1 from by walk_at "pp", show ((crn c (nx4 1)).1, (crn c (nx4 1)).2 - 1) = c from by walk_at "pp"]
        exact ⟨fun ⟨_, _, _, z4⟩ => z4 cT, fun ⟨z1, _, z3, z4⟩ => k z3 z4 z1⟩
      · rw [show ((crn c (nx4 2)).1, (crn c (nx4 2)).2) = c from by walk_at "pp", show ((crn c (nx4 2)).1 - 1, (crn c (nx4 2)).2 - 1) = dgl c 2 from by walk_at "pp", show ((crn c (nx4 2)).1 - 1, (crn c (nx4 2)).2) = nb c 2 from by walk_at "pp", show ((crn c (nx4 2)).1, (crn c (nx4 2)).2 - 1) = nb c (nx4 2) from by walk_at "pp"]
        exact ⟨fun ⟨_, z2, z3, z4⟩ => k z3 z4 z2, fun ⟨_, _, z3, _⟩ => z3 cT⟩
      · rw [show ((crn c (nx4 3)).1, (crn c (nx4 3)).2) = nb c (nx4 3) from by walk_at "pp", show ((crn c (nx4 3)).1 - 1, (crn c (nx4 3)).2 - 1) = nb c 3 from by walk_at "pp", show ((crn c (nx4 3)).1 - 1, (crn c (nx4 3)).2) = c from by walk_at "pp", show ((crn c (nx4 3)).1, (crn c (nx4 3)).2 - 1) = dgl c 3 from by walk_at "pp"]
        exact ⟨fun ⟨_, _, z3, _⟩ => z3 cT, fun ⟨_, z2, z3, z4⟩ => k z4 z3 z2⟩
    · obtain ⟨g1, g2⟩ := h.dg p
      have m : ∀ q, Meet p q → (q ∈ T ↔ q ∈ S) := fun q hq => same q fun e => hp (e ▸ hq)
      rw [m (p.1, p.2) (.inl rfl), m (p.1 - 1, p.2) (.inr (.inl rfl)), m (p.1 - 1, p.2 - 1) (.inr (.inr (.inl rfl))), m (p.1, p.2 - 1) (.inr (.inr (.inr rfl)))]
      exact ⟨g1, g2⟩
  refine ⟨dgT, ?_⟩
  have nf := not_four h hc
  have go : ∀ ja jb, ja < 4 → jb < 4 → nb c ja ∈ S → nb c (nx4 ja) ∉ S → nb c jb ∉ S → nb c (nx4 jb) ∈ S → (∀ j, j < 4 → nb c j ∈ S → nb c (nx4 j) ∉ S → j = ja) → (∀ j, j < 4 → nb c j ∉ S → nb c (nx4 j) ∈ S → j = jb) → ∀ p q, Crn T p → Crn T q → Rch (RS T) p q :=
    fun ja jb hja hjb a1 a2 b1 b2 ua ub => one_step h hT hc hja hjb a1 a2 b1 b2 ua ub
  by_cases z0 : nb c 0 ∈ S <;> by_cases z1 : nb c 1 ∈ S <;> by_cases z2 : nb c 2 ∈ S <;> by_cases z3 : nb c 3 ∈ S
  · exact (nf z0 z1 z2 z3).elim
  · exact go 2 3 (by omega) (by omega) z2 z3 z3 z0 (fun j hj y1 y2 => by rcases c4 hj with rfl | rfl | rfl | rfl <;> first | rfl | exact absurd y1 (by assumption) | exact absurd (by assumption) y2) (fun j hj y1 y2 => by rcases c4 hj with rfl | rfl | rfl | rfl <;> first | rfl | exact absurd (by assumption) y1 | exact absurd y2 (by assumption))
  · exact go 1 2 (by omega) (by omega) z1 z2 z2 z3 (fun j hj y1 y2 => by rcases c4 hj with rfl | rfl | rfl | rfl <;> first | rfl | exact absurd y1 (by assumption) | exact absurd (by assumption) y2) (fun j hj y1 y2 => by rcases c4 hj with rfl | rfl | rfl | rfl <;> first | rfl | exact absurd (by assumption) y1 | exact absurd y2 (by assumption))
  · exact go 1 3 (by omega) (by omega) z1 z2 z3 z0 (fun j hj y1 y2 => by rcases c4 hj with rfl | rfl | rfl | rfl <;> first | rfl | exact absurd y1 (by assumption) | exact absurd (by assumption) y2) (fun j hj y1 y2 => by rcases c4 hj with rfl | rfl | rfl | rfl <;> first | rfl | exact absurd (by assumption) y1 | exact absurd y2 (by assumption))
  · exact go 0 1 (by omega) (by omega) z0 z1 z1 z2 (fun j hj y1 y2 => by rcases c4 hj with rfl | rfl | rfl | rfl <;> first | rfl | exact absurd y1 (by assumption) | exact absurd (by assumption) y2) (fun j hj y1 y2 => by rcases c4 hj with rfl | rfl | rfl | rfl <;> first | rfl | exact absurd (by assumption) y1 | exact absurd y2 (by assumption))
  · exact (alt1 ⟨z0, z2, z1, z3⟩).elim
  · exact go 0 2 (by omega) (by omega) z0 z1 z2 z3 (fun j hj y1 y2 => by rcases c4 hj with rfl | rfl | rfl | rfl <;> first | rfl | exact absurd y1 (by assumption) | exact absurd (by assumption) y2) (fun j hj y1 y2 => by rcases c4 hj with rfl | rfl | rfl | rfl <;> first | rfl | exact absurd (by assumption) y1 | exact absurd y2 (by assumption))
  · exact go 0 3 (by omega) (by omega) z0 z1 z3 z0 (fun j hj y1 y2 => by rcases c4 hj with rfl | rfl | rfl | rfl <;> first | rfl | exact absurd y1 (by assumption) | exact absurd (by assumption) y2) (fun j hj y1 y2 => by rcases c4 hj with rfl | rfl | rfl | rfl <;> first | rfl | exact absurd (by assumption) y1 | exact absurd y2 (by assumption))
  · exact go 3 0 (by omega) (by omega) z3 z0 z0 z1 (fun j hj y1 y2 => by rcases c4 hj with rfl | rfl | rfl | rfl <;> first | rfl | exact absurd y1 (by assumption) | exact absurd (by assumption) y2) (fun j hj y1 y2 => by rcases c4 hj with rfl | rfl | rfl | rfl <;> first | rfl | exact absurd (by assumption) y1 | exact absurd y2 (by assumption))
  · exact go 2 0 (by omega) (by omega) z2 z3 z0 z1 (fun j hj y1 y2 => by rcases c4 hj with rfl | rfl | rfl | rfl <;> first | rfl | exact absurd y1 (by assumption) | exact absurd (by assumption) y2) (fun j hj y1 y2 => by rcases c4 hj with rfl | rfl | rfl | rfl <;> first | rfl | exact absurd (by assumption) y1 | exact absurd y2 (by assumption))
  · exact (alt2 ⟨z1, z3, z0, z2⟩).elim
  · exact go 1 0 (by omega) (by omega) z1 z2 z0 z1 (fun j hj y1 y2 => by rcases c4 hj with rfl | rfl | rfl | rfl <;> first | rfl | exact absurd y1 (by assumption) | exact absurd (by assumption) y2) (fun j hj y1 y2 => by rcases c4 hj with rfl | rfl | rfl | rfl <;> first | rfl | exact absurd (by assumption) y1 | exact absurd y2 (by assumption))
  · exact go 3 1 (by omega) (by omega) z3 z0 z1 z2 (fun j hj y1 y2 => by rcases c4 hj with rfl | rfl | rfl | rfl <;> first | rfl | exact absurd y1 (by assumption) | exact absurd (by assumption) y2) (fun j hj y1 y2 => by rcases c4 hj with rfl | rfl | rfl | rfl <;> first | rfl | exact absurd (by assumption) y1 | exact absurd y2 (by assumption))
  · exact go 2 1 (by omega) (by omega) z2 z3 z1 z2 (fun j hj y1 y2 => by rcases c4 hj with rfl | rfl | rfl | rfl <;> first | rfl | exact absurd y1 (by assumption) | exact absurd (by assumption) y2) (fun j hj y1 y2 => by rcases c4 hj with rfl | rfl | rfl | rfl <;> first | rfl | exact absurd (by assumption) y1 | exact absurd y2 (by assumption))
  · exact go 3 2 (by omega) (by omega) z3 z0 z2 z3 (fun j hj y1 y2 => by rcases c4 hj with rfl | rfl | rfl | rfl <;> first | rfl | exact absurd y1 (by assumption) | exact absurd (by assumption) y2) (fun j hj y1 y2 => by rcases c4 hj with rfl | rfl | rfl | rfl <;> first | rfl | exact absurd (by assumption) y1 | exact absurd y2 (by assumption))
  · exfalso
    rcases c4 hi with rfl | rfl | rfl | rfl <;> contradiction
end
theorem beside_nb {d c : Pt} {j : Nat} (hj : j < 4) (h : c = (beside d).getD j (0, 0)) : ∃ i, i < 4 ∧ nb c i = d := by
  subst h
  rcases c4 hj with rfl | rfl | rfl | rfl
  · exact ⟨2, by omega, by refine Prod.ext ?_ ?_ <;> simp [nb, stp, beside] <;> omega⟩
  · exact ⟨3, by omega, by refine Prod.ext ?_ ?_ <;> simp [nb, stp, beside] <;> omega⟩
  · exact ⟨0, by omega, by refine Prod.ext ?_ ?_ <;> simp [nb, stp, beside] <;> omega⟩
  · exact ⟨1, by omega, by refine Prod.ext ?_ ?_ <;> simp [nb, stp, beside] <;> omega⟩
theorem gstep_one {S : List Pt} {many : Int} {i j : Nat} (g : One S) (hi : i < S.length) (hj : j < 4) : One (gstep S many i j) := by
  unfold gstep
  split
  · rename_i z
    obtain ⟨_, z1, z2⟩ := z
    obtain ⟨k, hk, e⟩ := beside_nb hj (d := S.getD i (0, 0)) rfl
    refine one_add (T := S ++ [_]) g (fun x => by rw [List.mem_append, List.mem_singleton]) z1 z2 hk ?_
    rw [e, List.getD_eq_getElem?_getD, List.getElem?_eq_getElem hi]
    exact List.getElem_mem hi
  · exact g
theorem gr_one (ns : List Int) (at0 many : Int) : ∀ k, One (gr ns at0 many k)
  | 0 => one_one
  | k + 1 => by
    have hpos := gr_pos ns at0 many k
    refine gstep_one (gr_one ns at0 many k) ?_ ?_
    · have h1 := Int.emod_lt_of_pos (mix ns (at0 + (k : Int))) (b := ((gr ns at0 many k).length : Int)) (by omega)
      have h2 := Int.emod_nonneg (mix ns (at0 + (k : Int))) (b := ((gr ns at0 many k).length : Int)) (by omega)
      omega
    · omega
theorem gr_nodup (ns : List Int) (at0 many : Int) : ∀ k, (gr ns at0 many k).Nodup
  | 0 => by simp [gr]
  | k + 1 => by
    show (gstep _ _ _ _).Nodup
    unfold gstep
    split
    · rename_i z
      rw [List.nodup_append]
      exact ⟨gr_nodup ns at0 many k, by simp, fun a ha b hb => by rw [List.mem_singleton.mp hb]; exact fun e => z.2.1 (e ▸ ha)⟩
    · exact gr_nodup ns at0 many k
def sp_l_grown : Sp3 := fun ds H Q => match ds with
  | [.fl xs, .int at0, .int many] => (match intsOf xs with
    | some ns => ((0 ≤ at0 ∧ at0 ≤ 500) ∧ 0 ≤ many ∧ many ≤ 20) ∧ ∀ p, H p = none → Q (.ref p) (upd3 H p (.lst ((grown ns at0 many).map prP)))
    | none => False)
  | _ => False
theorem u_l_grown {ns : List Int} {at0 many : Int} {H : Hp3} {Q : VK3} (h1 : 0 ≤ at0 ∧ at0 ≤ 500) (h2 : 0 ≤ many ∧ many ≤ 20) (h : ∀ p, H p = none → Q (.ref p) (upd3 H p (.lst ((grown ns at0 many).map prP)))) : sp_l_grown [.fl (ns.map D.int), .int at0, .int many] H Q := by
  simp only [sp_l_grown, intsOf_map]; exact ⟨⟨h1, h2⟩, h⟩
theorem len_l_grown : ∀ (ds : List D) (H : Hp3) (Q : VK3), sp_l_grown ds H Q → ds.length = P_l_grown.length := by
  intro ds H Q h
  unfold sp_l_grown at h
  split at h
  · rfl
  · exact h.elim

def lp_l_grown_0 : TS3 := fo3 (ir1 (o3 i3mulW (c3 (.int 3)) (v3 2))) (gn3 4) (sq3 (st3 5 (cb3 sp_l_mix (cons3 (v3 0) (cons3 (o3 r3add (v3 1) (v3 4)) nil3))))
    (sq3 (st3 6 (o3 r3ix (cb3 sp_l_beside (cons3 (o3 r3ix (v3 3) (o3 i3mod (v3 5) (cb3 r3len (cons3 (v3 3) nil3)))) nil3)) (o3 i3mod (o3 i3divW (v3 5) (c3 (.int 720))) (c3 (.int 4)))))
    (is3 (an3 (ts3 (o3 r3lt (cb3 r3len (cons3 (v3 3) nil3)) (v3 2))) (an3 (ts3 (o3 (r3inX true) (v3 6) (v3 3))) (no3 (ts3 (cb3 sp_l_shuts_in (cons3 (v3 3) (cons3 (v3 6) nil3))))))) (dr3 (m3 r3app (v3 3) (cons3 (v3 6) nil3))) nx3)))
def t_l_grown : TS3 := (sq3 (st3 3 (ls3 (cons3 (tp3 (cons3 (c3 (.int 0)) (cons3 (c3 (.int 0)) nil3))) nil3)))
    (sq3 lp_l_grown_0
    (rt3 (v3 3))))
theorem rd_l_grown : ∀ (ds : List D) (H : Hp3) (Q : VK3), sp_l_grown ds H Q → t_l_grown (fin3 Q) (start3 N_l_grown ds) H := by
  intro ds H Q h
  unfold sp_l_grown at h
  split at h
  case h_2 => exact h.elim
  rename_i xs at0 many
  split at h
  case h_2 => exact h.elim
  rename_i ns e
  have e' := intsOf_inv e
  subst e'
  obtain ⟨⟨⟨a0, a1⟩, m0, m1⟩, h⟩ := h
  simp only [t_l_grown, start3, N_l_grown, List.map_cons, List.map_nil, List.length_cons, List.length_nil, Nat.reduceAdd, Nat.reduceSub, Nat.zero_add, List.replicate, List.cons_append, List.nil_append]
  walk_at "l3"
  intro p hp
  walk_at "l3"
  unfold lp_l_grown_0
  walk_at "l3"
  refine Lp.rng (fun i σ H2 => Sub3 H H2 ∧ H2 p = some (.lst ((gr ns at0 many i).map prP)) ∧ ∃ k c s, σ = [some (.fl (ns.map D.int)), some (.int at0), some (.int many), some (.ref p), k, c, s]) ⟨Sub3.fresh hp, upd3_same, _, _, _, rfl⟩ ?_ ?_
  · rintro i σ H2 hi ⟨hs, hH, k, c, s, rfl⟩
    have hpos := gr_pos ns at0 many i
    have hmost := gr_most ns at0 many i
    have egr : gr ns at0 many (i + 1) = gstep (gr ns at0 many i) many (mix ns (at0 + (i : Int)) % ((gr ns at0 many i).length : Int)).toNat ((mix ns (at0 + (i : Int)) / 720) % 4).toNat := rfl
    have hi' : (i : Int) < 3 * many := by omega
    revert egr hH hpos hmost
    generalize gr ns at0 many i = ps
    intro hH hpos hmost egr
    walk_at "l3"
    refine u_l_mix (by omega) (by omega) ?_
    rw [Int.zero_add]
    generalize mix ns (at0 + (i : Int)) = m at egr
    have hl0 : (0 : Int) < ps.length := by omega
    have hl0' : (0 : Int) < ((ps.map prP).length : Int) := by rw [List.length_map]; exact hl0
    have n0 : 0 ≤ m % (ps.length : Int) := Int.emod_nonneg _ (by omega)
    have n1 : (m % (ps.length : Int)).toNat < ps.length := by have := Int.emod_lt_of_pos (m) hl0; omega
    walk_at "l3"
    rw [List.length_map]
    refine g_ixL hH (atI_map n0 n1) ?_
    unfold prP
    walk_at "l3"
    refine u_l_beside fun p2 hp2 => ?_
    walk_at "l3"
    have q0 : 0 ≤ m / 720 % 4 := by omega
    have q1 : (m / 720 % 4).toNat < (beside (ps[(m % (ps.length : Int)).toNat]'n1)).length := by show _ < 4; omega
    refine g_ixL upd3_same (atI_map (f := prP) q0 q1) ?_
    have ec : (beside (ps[(m % (ps.length : Int)).toNat]'n1))[(m / 720 % 4).toNat]'q1 = (beside (ps.getD (m % (ps.length : Int)).toNat (0, 0))).getD (m / 720 % 4).toNat (0, 0) := by
      rw [← List.getElem_eq_getD (h := n1) (0, 0), ← List.getElem_eq_getD (h := q1) (0, 0)]
    unfold gstep at egr
    rw [← ec] at egr
    generalize (beside (ps[(m % (ps.length : Int)).toNat]'n1))[(m / 720 % 4).toNat]'q1 = side at egr
    have hs2 := hs.trans (Sub3.fresh (o := .lst ((beside (ps[(m % (ps.length : Int)).toNat]'n1)).map prP)) hp2)
    have hH2 := upd3_old (u := .lst ((beside (ps[(m % (ps.length : Int)).toNat]'n1)).map prP)) hH hp2
    revert hs2 hH2
    generalize upd3 H2 p2 _ = H3
    intro hs2 hH2
    unfold prP
    walk_at "l3"
    refine ifD (fun c1 => ?_) fun c1 => ?_
    · walk_at "l3"
      refine g_ninX (seq_ref hH2) ?_
      walk_at "l3"
      refine ifN (fun c2 => ?_) fun c2 => ?_
      · walk_at "l3"
        refine u_l_shuts_in hH2 ?_
        walk_at "l3"
        refine ifB (fun c3 => ?_) fun c3 => ?_
        · walk_at "l3"
          refine g_app hH2 (small1000' (by rw [List.length_map]; omega)) ?_
          walk_at "l3"
          rw [egr, if_pos ⟨by rw [List.length_map] at c1; exact c1, c2, by simpa using c3⟩]
          refine ⟨fun b o hb => ?_, ?_, _, _, _, rfl⟩
          · rw [upd3_ne (ne3 hb hp)]; exact hs2 b o hb
          · rw [upd3_same, List.map_append]; rfl
        · walk_at "l3"
          rw [egr, if_neg (fun z => by have := z.2.2; rw [this] at c3; cases c3)]
          exact ⟨hs2, hH2, _, _, _, rfl⟩
      · refine ifX rfl ?_
        walk_at "l3"
        rw [egr, if_neg (fun z => z.2.1 c2)]
        exact ⟨hs2, hH2, _, _, _, rfl⟩
    · refine ifX rfl ?_
      walk_at "l3"
      rw [egr, if_neg (fun z => c1 (by rw [List.length_map]; exact z.1))]
      exact ⟨hs2, hH2, _, _, _, rfl⟩
  · rintro σ H2 ⟨hs, hH, k, c, s, rfl⟩
    walk_at "l3"
    exact g_fin (h p hp) (sub_upd hs hH)

theorem asc_w (ls : List Lt) : asc (wStr ls) := by
  show (ls.map cp).toArray.all (· < 128) = true
  rw [List.all_toArray, List.all_map, List.all_eq_true]
  intro l _
  have : ∀ l : Lt, cp l < 128 := by decide
  exact decide_eq_true (this l)
/-- the cells beyond the sides, from p on -/
def acr (S : List Pt) (p : Pt) (t : Nat) : List Pt := (List.range t).map fun i => rgt (itr S p i) (outD S (itr S p i))
def rh (d : Nat) : Pt := match d with
  | 0 => (0, -1)
  | 1 => (0, 0)
  | 2 => (-1, 0)
  | _ => (-1, -1)
theorem rh_at {d : Nat} (h : d < 4) : c_RIGHT_HAND.lookup (lt1 (ltN d)) = some (.ktup [.int (rh d).1, .int (rh d).2]) := by
  rcases c4 h with rfl | rfl | rfl | rfl <;> rfl
theorem rh_rgt {p : Pt} {d : Nat} (h : d < 4) : (p.1 + (rh d).1, p.2 + (rh d).2) = rgt p d := by
  rcases c4 h with rfl | rfl | rfl | rfl
  · exact Prod.ext (by show p.1 + 0 = p.1; omega) (by show p.2 + -1 = p.2 - 1; omega)
  · exact Prod.ext (by show p.1 + 0 = p.1; omega) (by show p.2 + 0 = p.2; omega)
  · exact Prod.ext (by show p.1 + -1 = p.1 - 1; omega) (by show p.2 + 0 = p.2; omega)
  · exact Prod.ext (by show p.1 + -1 = p.1 - 1; omega) (by show p.2 + -1 = p.2 - 1; omega)
theorem zip_wd (S : List Pt) (p : Pt) (t : Nat) : zipD ((path p (wd S p t)).map prP) ((wd S p t).map fun l => D.str (lt1 l)) = (List.range t).map fun i => D.tup [prP (itr S p i), .str (lt1 (ltN (outD S (itr S p i))))] := by
  unfold zipD
  refine List.ext_getElem? fun i => ?_
  rw [List.getElem?_zipWith, List.getElem?_map, List.getElem?_map, path_get, wd_len, List.getElem?_map]
  by_cases h : i < t
  · rw [if_pos (by omega), wd_take S p (by omega), endp_wd]
    unfold wd
    rw [List.getElem?_map, List.getElem?_range h]
    rfl
  · rw [show (List.range t)[i]? = none from List.getElem?_eq_none (by rw [List.length_range]; omega)]
    rw [show (wd S p t)[i]? = none from List.getElem?_eq_none (by rw [wd_len]; omega)]
    cases (if i ≤ t then some (endp p ((wd S p t).take i)) else none) <;> rfl
def sp_across : Sp3 := fun ds H Q => match ds with
  | [.tup xs] => ∃ S s0, (xs = S.map prP ∧ S[0]? = some s0 ∧ S.length ≤ 20 ∧ One S ∧ Crn S s0) ∧ ∀ t p, Rnd S s0 t → t ≤ 80 → H p = none → Q (.ref p) (upd3 H p (.lst ((acr S s0 t).map prP)))
  | _ => False
theorem u_across {S : List Pt} {s0 : Pt} {H : Hp3} {Q : VK3} (h0 : S[0]? = some s0) (hl : S.length ≤ 20) (g : One S) (hcr : Crn S s0) (h : ∀ t p, Rnd S s0 t → t ≤ 80 → H p = none → Q (.ref p) (upd3 H p (.lst ((acr S s0 t).map prP)))) : sp_across [.tup (S.map prP)] H Q := ⟨S, s0, ⟨rfl, h0, hl, g, hcr⟩, h⟩
theorem len_across : ∀ (ds : List D) (H : Hp3) (Q : VK3), sp_across ds H Q → ds.length = P_across.length := by
  intro ds H Q h
  unfold sp_across at h
  split at h
  · rfl
  · exact h.elim

def t_across : TS3 := (sq3 (st3 1 (cb3 sp_border_of (cons3 (v3 0) nil3)))
    (sq3 (st3 2 (cb3 sp_corners_of (cons3 (o3 r3ix (v3 1) (c3 (.int 0))) (cons3 (o3 r3ix (v3 1) (c3 (.int 1))) nil3))))
    (rt3 (cp3 (izt (v3 2) (o3 r3ix (v3 1) (c3 (.int 1)))) (g2_3 0 1) yes3 (cb3 sp_added (cons3 (v3 0) (cons3 (kd3 c_RIGHT_HAND (v3 1)) nil3))) ["corner", "letter"] []))))
theorem rd_across : ∀ (ds : List D) (H : Hp3) (Q : VK3), sp_across ds H Q → t_across (fin3 Q) (start3 N_across ds) H := by
  intro ds H Q h
  unfold sp_across at h
  split at h
  case h_2 => exact h.elim
  obtain ⟨S, s0, ⟨rfl, h0, hl, g, hcr⟩, h⟩ := h
  simp only [t_across, start3, N_across, List.map_cons, List.map_nil, List.length_cons, List.length_nil, Nat.reduceAdd, Nat.reduceSub, Nat.zero_add, List.replicate, List.cons_append, List.nil_append]
  walk_at "l3"
  refine u_border_of h0 hl g hcr fun t r ht => ?_
  walk_at "l3"
  refine u_corners_of _ (by rw [wd_len]; omega) fun p hp => ?_
  walk_at "l3"
  refine g_ztk upd3_same (asc_w _) ?_
  rw [lets_w, zip_wd]
  refine Cp.mapP (fun i => rgt (itr S s0 i) (outD S (itr S s0 i))) (fun H2 hs => hs _ _ upd3_same) (by rw [List.length_range]; omega) ?_ ?_
  · intro i a ha R H2 hs hR
    unfold prP
    walk_at "l3"
    refine g_kdk (rh_at outD_lt) ?_
    walk_at "l3"
    have e := rh_rgt (p := itr S s0 a) (d := outD S (itr S s0 a)) outD_lt
    rw [show (itr S s0 a).1 + (rh (outD S (itr S s0 a))).1 = (rgt (itr S s0 a) (outD S (itr S s0 a))).1 from congrArg Prod.fst e, show (itr S s0 a).2 + (rh (outD S (itr S s0 a))).2 = (rgt (itr S s0 a) (outD S (itr S s0 a))).2 from congrArg Prod.snd e]
    exact hR H2 Sub3.refl
  intro p2 hp2
  have hp0 : H p2 = none := sub_back (Sub3.fresh hp) hp2
  exact g_fin (h t p2 r ht hp0) (sub_upd ((Sub3.fresh hp).upd hp0) upd3_same)

def sp_law : Sp3 := fun ds H Q => match ds with
  | [.fl xs] => (match intsOf xs with
    | some ns => ns.length ≤ 63 ∧ ∀ H' : Hp3, Q (.bl true) H'
    | none => False)
  | _ => False
theorem begin_law {ns : List Int} (h : ns.length ≤ 63) : sp_law [.fl (ns.map D.int)] (fun _ => none) (fun d _ => d = .bl true) := by
  simp only [sp_law, intsOf_map]
  exact ⟨h, fun _ => trivial⟩
theorem Rnd.uniq {S : List Pt} {p : Pt} {t u : Nat} (r : Rnd S p t) (r' : Rnd S p u) : u = t := by
  rcases Nat.lt_trichotomy t u with z | z | z
  · exact absurd r.back (r'.not t r.pos z)
  · exact z.symm
  · exact absurd r'.back (r.not u r'.pos z)
/-- a grown piece, in order, moved: its border from its first cell on -/
theorem first_crn {gs : List Pt} (s : Pt) (g : One gs) (hn : 1 ≤ gs.length) : ∃ s0, ((isort gs).map fun q => (q.1 + s.1, q.2 + s.2))[0]? = some s0 ∧ One ((isort gs).map fun q => (q.1 + s.1, q.2 + s.2)) ∧ Crn ((isort gs).map fun q => (q.1 + s.1, q.2 + s.2)) s0 := by
  have o := (g.congr fun x => ((isort_perm gs).mem_iff (a := x)).symm).mv s
  have hs := isort_sorted gs
  have hl := isort_len gs
  cases h : isort gs with
  | nil => rw [h] at hl; simp at hl; omega
  | cons m r =>
    rw [h] at o hs
    refine ⟨(m.1 + s.1, m.2 + s.2), rfl, o, 0, by omega, List.mem_cons_self, fun z => ?_⟩
    rw [List.mem_map] at z
    obtain ⟨q, hq, e⟩ := z
    have e2 := congrArg Prod.snd e
    simp only [rgt0] at e2
    have le : m.2 ≤ q.2 := by
      rcases List.mem_cons.mp hq with rfl | hq
      · exact Int.le_refl _
      · have := (List.pairwise_cons.mp hs).1 q hq
        unfold leP at this
        rw [ltc_false] at this
        omega
    omega
theorem len_law : ∀ (ds : List D) (H : Hp3) (Q : VK3), sp_law ds H Q → ds.length = P_law.length := by
  intro ds H Q h
  unfold sp_law at h
  split at h
  · rfl
  · exact h.elim

def t_law : TS3 := (sq3 (st3 1 (cb3 sp_l_far (cons3 (cb3 sp_l_cell_at (cons3 (v3 0) (cons3 (c3 (.int 1)) nil3))) nil3)))
    (sq3 (st3 2 (cb3 sp_l_far (cons3 (cb3 sp_l_cell_at (cons3 (v3 0) (cons3 (c3 (.int 2)) nil3))) nil3)))
    (sq3 (st3 3 (cb3 sp_l_sorted (cons3 (cb3 sp_l_grown (cons3 (v3 0) (cons3 (c3 (.int 5)) (cons3 (o3 r3add (c3 (.int 1)) (o3 i3mod (cb3 sp_l_cell_at (cons3 (v3 0) (cons3 (c3 (.int 0)) nil3))) (c3 (.int 10)))) nil3)))) nil3)))
    (sq3 (st3 4 (cb3 r3tuple (cons3 (cp3 (il3 (v3 3)) (gn3 0) yes3 (tp3 (cons3 (o3 r3add (o3 r3ix (v3 0) (c3 (.int 0))) (v3 1)) (cons3 (o3 r3add (o3 r3ix (v3 0) (c3 (.int 1))) (v3 2)) nil3))) ["_law_cell"] [(1, "_law_x"), (2, "_law_y")]) nil3)))
    (sq3 (st3 5 (cp3 (il3 (cb3 sp_l_border (cons3 (v3 4) nil3))) (gn3 0) yes3 (o3 r3ix (v3 0) (c3 (.int 2))) ["_law_side"] []))
    (sq3 (st3 6 (cb3 sp_across (cons3 (v3 4) nil3)))
    (sq3 (is3 (or3 (no3 (ts3 (cb3 sp_l_pairs (cons3 (v3 6) (cons3 (v3 5) nil3))))) (ts3 (cb3 r3any (cons3 (cp3 (il3 (v3 6)) (gn3 0) yes3 (o3 (r3inX false) (v3 0) (v3 1)) ["_law_cell"] [(4, "_law_piece")]) nil3)))) (rt3 (c3 (.bl false))) nx3)
    (sq3 (dr3 (m3 r3clr (v3 6) nil3))
    (rt3 (cb3 sp_l_pairs (cons3 (cb3 sp_across (cons3 (v3 4) nil3)) (cons3 (v3 5) nil3))))))))))))
theorem rd_law : ∀ (ds : List D) (H : Hp3) (Q : VK3), sp_law ds H Q → t_law (fin3 Q) (start3 N_law ds) H := by
  intro ds H Q h
  unfold sp_law at h
  split at h
  case h_2 => exact h.elim
  rename_i xs
  split at h
  case h_2 => exact h.elim
  rename_i ns e
  have e' := intsOf_inv e
  subst e'
  obtain ⟨hl, h⟩ := h
  simp only [t_law, start3, N_law, List.map_cons, List.map_nil, List.length_cons, List.length_nil, Nat.reduceAdd, Nat.reduceSub, Nat.zero_add, List.replicate, List.cons_append, List.nil_append]
  walk_at "l3"
  refine u_l_grown ⟨by decide, by decide⟩ ⟨by omega, by omega⟩ fun p1 hp1 => ?_
  walk_at "l3"
  have hgl : (grown ns 5 (1 + ns.getD (Int.toNat 0) 0 % 10)).length ≤ 20 := by
    have := gr_most ns 5 (1 + ns.getD (Int.toNat 0) 0 % 10) (3 * (1 + ns.getD (Int.toNat 0) 0 % 10)).toNat
    unfold grown; omega
  have hgn : 1 ≤ (grown ns 5 (1 + ns.getD (Int.toNat 0) 0 % 10)).length := gr_pos _ _ _ _
  have hgo : One (grown ns 5 (1 + ns.getD (Int.toNat 0) 0 % 10)) := gr_one _ _ _ _
  refine u_l_sorted upd3_same (by omega) fun p2 hp2 => ?_
  generalize grown ns 5 (1 + ns.getD (Int.toNat 0) 0 % 10) = gs at *
  generalize far (ns.getD (Int.toNat 1) 0) = x
  generalize far (ns.getD (Int.toNat 2) 0) = y
  obtain ⟨s0, hs0, hO, hcr⟩ := first_crn (x, y) hgo hgn
  have hlS : ((isort gs).map fun q => (q.1 + x, q.2 + y)).length ≤ 20 := by rw [List.length_map, isort_len]; exact hgl
  walk_at "l3"
  refine Cp.mapP (fun q => (q.1 + x, q.2 + y)) (fun H2 hs => hs _ _ upd3_same) (by rw [isort_len]; omega) ?_ ?_
  · intro i q hq R H2 hs hR
    unfold prP
    walk_at "l3"
    exact hR H2 Sub3.refl
  intro p3 hp3
  dsimp only at hs0 hO hcr
  generalize ((isort gs).map fun q => (q.1 + x, q.2 + y)) = S at *
  walk_at "l3"
  refine u_l_border hs0 hlS hO hcr fun t p4 r ht hp4 => ?_
  walk_at "l3"
  refine Cp.mapP (fun i => rgt (itr S s0 i) (outD S (itr S s0 i))) (fun H2 hs => hs _ _ upd3_same) (by rw [List.length_range]; omega) ?_ ?_
  · intro i q hq R H2 hs hR
    walk_at "l3"
    unfold prP
    exact hR H2 Sub3.refl
  intro p5 hp5
  walk_at "l3"
  refine u_across hs0 hlS hO hcr fun t' p6 r' ht' hp6 => ?_
  have et := r.uniq r'
  subst et
  have la : (acr S s0 t').length ≤ 1000 := by unfold acr; rw [List.length_map, List.length_range]; omega
  have na : ∀ q ∈ acr S s0 t', q ∉ S := fun q hq => by
    obtain ⟨i, _, rfl⟩ := List.mem_map.mp hq
    exact (outD_edge (crn_itr hcr i)).r
  walk_at "l3"
  refine u_l_pairs (ps := acr S s0 t') upd3_same (upd3_old upd3_same hp6) la ?_
  walk_at "l3"
  refine ifX rfl ?_
  walk_at "l3"
  refine Cp.map (fun _ => .bl false) (fun H2 hs => hs _ _ upd3_same) la ?_ ?_
  · intro i q hq R H2 hs hR
    have hn := na q (List.mem_of_getElem? hq)
    unfold prP
    walk_at "l3"
    refine g_inX (ps := S) rfl ?_
    rw [decide_eq_false hn]
    exact hR H2 Sub3.refl
  intro p7 hp7
  walk_at "l3"
  refine g_tr (bs := (acr S s0 t').map fun _ => false) (by rw [upd3_same, List.map_map]; rfl) ?_
  rw [show ((acr S s0 t').map fun _ => false).any id = false from by simp]
  walk_at "l3"
  refine ifX rfl ?_
  walk_at "l3"
  refine g_clr (upd3_old upd3_same hp7) ?_
  walk_at "l3"
  refine u_across hs0 hlS hO hcr fun t2 p8 r2 ht2 hp8 => ?_
  have et := r.uniq r2
  subst et
  have n65 : p5 ≠ p6 := ne3 upd3_same hp6
  walk_at "l3"
  refine u_l_pairs (ps := acr S s0 t2) upd3_same (upd3_old (by rw [upd3_ne n65]; exact upd3_old (upd3_old upd3_same hp6) hp7) hp8) la ?_
  walk_at "l3"
  exact g_fin (h _) Sub3.refl

def top (i : Nat) : Stmt := PySem.Challenge.pw_borderfloor_k46_cells_across.main.body.getD i (.Pass ⟨0, 0, 0, 0⟩)
abbrev s_added : Stmt := top 1
abbrev s_corners_of : Stmt := top 4
abbrev s_sides_of : Stmt := top 6
abbrev s_letters_by_corner : Stmt := top 7
abbrev s_border_of : Stmt := top 8
abbrev s_across : Stmt := top 11
abbrev s_l_cell_at : Stmt := top 13
abbrev s_l_mix : Stmt := top 14
abbrev s_l_whole : Stmt := top 15
abbrev s_l_is_pair : Stmt := top 16
abbrev s_l_pairs : Stmt := top 17
abbrev s_l_sorted : Stmt := top 18
abbrev s_l_beside : Stmt := top 19
abbrev s_l_shuts_in : Stmt := top 20
abbrev s_l_grown : Stmt := top 21
abbrev s_l_far : Stmt := top 22
abbrev s_l_border : Stmt := top 23
abbrev s_law : Stmt := top 24
theorem sc_added : FnScope N_added P_added (defScope s_added) := ⟨rfl, rfl, rfl, by decide +kernel, rfl, by decide +kernel, by decide +kernel⟩
theorem sc_corners_of : FnScope N_corners_of P_corners_of (defScope s_corners_of) := ⟨rfl, rfl, rfl, by decide +kernel, rfl, by decide +kernel, by decide +kernel⟩
theorem sc_sides_of : FnScope N_sides_of P_sides_of (defScope s_sides_of) := ⟨rfl, rfl, rfl, by decide +kernel, rfl, by decide +kernel, by decide +kernel⟩
theorem sc_letters_by_corner : FnScope N_letters_by_corner P_letters_by_corner (defScope s_letters_by_corner) := ⟨rfl, rfl, rfl, by decide +kernel, rfl, by decide +kernel, by decide +kernel⟩
theorem sc_border_of : FnScope N_border_of P_border_of (defScope s_border_of) := ⟨rfl, rfl, rfl, by decide +kernel, rfl, by decide +kernel, by decide +kernel⟩
theorem sc_across : FnScope N_across P_across (defScope s_across) := ⟨rfl, rfl, rfl, by decide +kernel, rfl, by decide +kernel, by decide +kernel⟩
theorem sc_l_cell_at : FnScope N_l_cell_at P_l_cell_at (defScope s_l_cell_at) := ⟨rfl, rfl, rfl, by decide +kernel, rfl, by decide +kernel, by decide +kernel⟩
theorem sc_l_mix : FnScope N_l_mix P_l_mix (defScope s_l_mix) := ⟨rfl, rfl, rfl, by decide +kernel, rfl, by decide +kernel, by decide +kernel⟩
theorem sc_l_whole : FnScope N_l_whole P_l_whole (defScope s_l_whole) := ⟨rfl, rfl, rfl, by decide +kernel, rfl, by decide +kernel, by decide +kernel⟩
theorem sc_l_is_pair : FnScope N_l_is_pair P_l_is_pair (defScope s_l_is_pair) := ⟨rfl, rfl, rfl, by decide +kernel, rfl, by decide +kernel, by decide +kernel⟩
theorem sc_l_pairs : FnScope N_l_pairs P_l_pairs (defScope s_l_pairs) := ⟨rfl, rfl, rfl, by decide +kernel, rfl, by decide +kernel, by decide +kernel⟩
theorem sc_l_sorted : FnScope N_l_sorted P_l_sorted (defScope s_l_sorted) := ⟨rfl, rfl, rfl, by decide +kernel, rfl, by decide +kernel, by decide +kernel⟩
theorem sc_l_beside : FnScope N_l_beside P_l_beside (defScope s_l_beside) := ⟨rfl, rfl, rfl, by decide +kernel, rfl, by decide +kernel, by decide +kernel⟩
theorem sc_l_shuts_in : FnScope N_l_shuts_in P_l_shuts_in (defScope s_l_shuts_in) := ⟨rfl, rfl, rfl, by decide +kernel, rfl, by decide +kernel, by decide +kernel⟩
theorem sc_l_grown : FnScope N_l_grown P_l_grown (defScope s_l_grown) := ⟨rfl, rfl, rfl, by decide +kernel, rfl, by decide +kernel, by decide +kernel⟩
theorem sc_l_far : FnScope N_l_far P_l_far (defScope s_l_far) := ⟨rfl, rfl, rfl, by decide +kernel, rfl, by decide +kernel, by decide +kernel⟩
theorem sc_l_border : FnScope N_l_border P_l_border (defScope s_l_border) := ⟨rfl, rfl, rfl, by decide +kernel, rfl, by decide +kernel, by decide +kernel⟩
theorem sc_law : FnScope N_law P_law (defScope s_law) := ⟨rfl, rfl, rfl, by decide +kernel, rfl, by decide +kernel, by decide +kernel⟩
structure Tx (K : PySem.W.Frag) (mg : Str → Option Value) (w : World) : Prop where
  f_added : ∃ f fd, Fun K "added" "added" s_added f fd ∧ mg "added" = some (.ref f) ∧ Binds K fd P_added []
  f_corners_of : ∃ f fd, Fun K "corners_of" "corners_of" s_corners_of f fd ∧ mg "corners_of" = some (.ref f) ∧ Binds K fd P_corners_of []
  f_sides_of : ∃ f fd, Fun K "sides_of" "sides_of" s_sides_of f fd ∧ mg "sides_of" = some (.ref f) ∧ Binds K fd P_sides_of []
  f_letters_by_corner : ∃ f fd, Fun K "letters_by_corner" "letters_by_corner" s_letters_by_corner f fd ∧ mg "letters_by_corner" = some (.ref f) ∧ Binds K fd P_letters_by_corner []
  f_border_of : ∃ f fd, Fun K "border_of" "border_of" s_border_of f fd ∧ mg "border_of" = some (.ref f) ∧ Binds K fd P_border_of []
  f_across : ∃ f fd, Fun K "across" "across" s_across f fd ∧ mg "across" = some (.ref f) ∧ Binds K fd P_across []
  f_l_cell_at : ∃ f fd, Fun K "_law_cell_at" "_law_cell_at" s_l_cell_at f fd ∧ mg "_law_cell_at" = some (.ref f) ∧ Binds K fd P_l_cell_at []
  f_l_mix : ∃ f fd, Fun K "_law_mix" "_law_mix" s_l_mix f fd ∧ mg "_law_mix" = some (.ref f) ∧ Binds K fd P_l_mix []
  f_l_whole : ∃ f fd, Fun K "_law_whole" "_law_whole" s_l_whole f fd ∧ mg "_law_whole" = some (.ref f) ∧ Binds K fd P_l_whole []
  f_l_is_pair : ∃ f fd, Fun K "_law_is_pair" "_law_is_pair" s_l_is_pair f fd ∧ mg "_law_is_pair" = some (.ref f) ∧ Binds K fd P_l_is_pair []
  f_l_pairs : ∃ f fd, Fun K "_law_pairs" "_law_pairs" s_l_pairs f fd ∧ mg "_law_pairs" = some (.ref f) ∧ Binds K fd P_l_pairs []
  f_l_sorted : ∃ f fd, Fun K "_law_sorted" "_law_sorted" s_l_sorted f fd ∧ mg "_law_sorted" = some (.ref f) ∧ Binds K fd P_l_sorted []
  f_l_beside : ∃ f fd, Fun K "_law_beside" "_law_beside" s_l_beside f fd ∧ mg "_law_beside" = some (.ref f) ∧ Binds K fd P_l_beside []
  f_l_shuts_in : ∃ f fd, Fun K "_law_shuts_in" "_law_shuts_in" s_l_shuts_in f fd ∧ mg "_law_shuts_in" = some (.ref f) ∧ Binds K fd P_l_shuts_in []
  f_l_grown : ∃ f fd, Fun K "_law_grown" "_law_grown" s_l_grown f fd ∧ mg "_law_grown" = some (.ref f) ∧ Binds K fd P_l_grown []
  f_l_far : ∃ f fd, Fun K "_law_far" "_law_far" s_l_far f fd ∧ mg "_law_far" = some (.ref f) ∧ Binds K fd P_l_far []
  f_l_border : ∃ f fd, Fun K "_law_border" "_law_border" s_l_border f fd ∧ mg "_law_border" = some (.ref f) ∧ Binds K fd P_l_border []
  m_any : mg "any" = none
  m_bool : mg "bool" = none
  m_int : mg "int" = none
  m_isinstance : mg "isinstance" = none
  m_len : mg "len" = none
  m_list : mg "list" = none
  m_range : mg "range" = none
  m_tuple : mg "tuple" = none
  m_zip : mg "zip" = none
  d_STEPS : ∃ a, mg "STEPS" = some (.ref a) ∧ DC K w a c_STEPS
  d_RIGHT_HAND : ∃ a, mg "RIGHT_HAND" = some (.ref a) ∧ DC K w a c_RIGHT_HAND
section
variable {P : Program} {w : World} {K : PySem.W.Frag} {mg : Str → Option Value} {base : Heap}
theorem ok_added (T : Tx K mg w) : Fn P w K mg base 1 "added" P_added sp_added := by
  obtain ⟨f, fd, F, hm, hb⟩ := T.f_added
  exact fn3 F sc_added hm hb len_added fun cdv A outer s H E hr => ⟨t_added, (s3_one (s3_ret (p3_tup (a3_cons (p3_op op3_add (p3_ix ix3 (p3_var 0) p3_int) (p3_ix ix3 (p3_var 1) p3_int)) (a3_cons (p3_op op3_add (p3_ix ix3 (p3_var 0) p3_int) (p3_ix ix3 (p3_var 1) p3_int)) a3_nil))))), rd_added⟩

theorem ok_sides_of (T : Tx K mg w) : Fn P w K mg base 1 "sides_of" P_sides_of sp_sides_of := by
  obtain ⟨f, fd, F, hm, hb⟩ := T.f_sides_of
  exact fn3 F sc_sides_of hm hb len_sides_of fun cdv A outer s H E hr => ⟨t_sides_of, (s3_cons (s3_set 1 sc_sides_of.nd (p3_ix ix3 (p3_var 0) p3_int))
      (s3_cons (s3_set 2 sc_sides_of.nd (p3_ix ix3 (p3_var 0) p3_int))
      (s3_one (s3_ret (p3_lst (a3_cons (p3_tup (a3_cons (p3_tup (a3_cons (p3_var 1) (a3_cons (p3_var 2) a3_nil))) (a3_cons p3_str (a3_cons (p3_tup (a3_cons (p3_var 1) (a3_cons (p3_op op3_sub (p3_var 2) p3_int) a3_nil))) a3_nil)))) (a3_cons (p3_tup (a3_cons (p3_tup (a3_cons (p3_op op3_add (p3_var 1) p3_int) (a3_cons (p3_var 2) a3_nil))) (a3_cons p3_str (a3_cons (p3_tup (a3_cons (p3_op op3_add (p3_var 1) p3_int) (a3_cons (p3_var 2) a3_nil))) a3_nil)))) (a3_cons (p3_tup (a3_cons (p3_tup (a3_cons (p3_op op3_add (p3_var 1) p3_int) (a3_cons (p3_op op3_add (p3_var 2) p3_int) a3_nil))) (a3_cons p3_str (a3_cons (p3_tup (a3_cons (p3_var 1) (a3_cons (p3_op op3_add (p3_var 2) p3_int) a3_nil))) a3_nil)))) (a3_cons (p3_tup (a3_cons (p3_tup (a3_cons (p3_var 1) (a3_cons (p3_op op3_add (p3_var 2) p3_int) a3_nil))) (a3_cons p3_str (a3_cons (p3_tup (a3_cons (p3_op op3_sub (p3_var 1) p3_int) (a3_cons (p3_var 2) a3_nil))) a3_nil)))) a3_nil))))))))), rd_sides_of⟩

theorem ok_l_cell_at (T : Tx K mg w) : Fn P w K mg base 1 "_law_cell_at" P_l_cell_at sp_l_cell_at := by
  obtain ⟨f, fd, F, hm, hb⟩ := T.f_l_cell_at
  exact fn3 F sc_l_cell_at hm hb len_l_cell_at fun cdv A outer s H E hr => ⟨t_l_cell_at, (s3_cons (s3_if (p3_tcmp (op3_lt hr.units0) (p3_var 1) (p3_callB cb3_len rfl T.m_len (by rfl) (a3_cons (p3_var 0) a3_nil))) (s3_one (s3_ret (p3_ix ix3 (p3_var 0) (p3_var 1)))) s3_nil)
      (s3_one (s3_ret p3_int))), rd_l_cell_at⟩

theorem ok_l_whole (T : Tx K mg w) : Fn P w K mg base 1 "_law_whole" P_l_whole sp_l_whole := by
  obtain ⟨f, fd, F, hm, hb⟩ := T.f_l_whole
  exact fn3 F sc_l_whole hm hb len_l_whole fun cdv A outer s H E hr => ⟨t_l_whole, (s3_one (s3_ret (p3_and (p3_callB cb3_isi rfl T.m_isinstance (by rfl) (a3_cons (p3_var 0) (a3_cons (p3_ty rfl T.m_int (by rfl)) a3_nil))) (p3_one (p3_not (p3_callB cb3_isi rfl T.m_isinstance (by rfl) (a3_cons (p3_var 0) (a3_cons (p3_ty rfl T.m_bool (by rfl)) a3_nil)))))))), rd_l_whole⟩

theorem ok_l_sorted (T : Tx K mg w) : Fn P w K mg base 1 "_law_sorted" P_l_sorted sp_l_sorted := by
  obtain ⟨f, fd, F, hm, hb⟩ := T.f_l_sorted
  exact fn3 F sc_l_sorted hm hb len_l_sorted fun cdv A outer s H E hr => ⟨t_l_sorted, (s3_cons (s3_set 1 sc_l_sorted.nd (p3_lst a3_nil))
      (s3_cons (s3_for PassesOwn.never rfl (i3_list (p3_var 0)) (g3_name 2 sc_l_sorted.nd) (s3_cons (s3_set 3 sc_l_sorted.nd p3_int)
      (s3_cons (s3_while PassesOwn.never (p3_tw (p3_wand (p3_tcmp (op3_lt hr.units0) (p3_var 3) (p3_callB cb3_len rfl T.m_len (by rfl) (a3_cons (p3_var 1) a3_nil))) (p3_wand1 (p3_tcmp (op3_lt hr.units0) (p3_tup (a3_cons (p3_ix ix3 (p3_ix ix3 (p3_var 1) (p3_var 3)) p3_int) (a3_cons (p3_ix ix3 (p3_ix ix3 (p3_var 1) (p3_var 3)) p3_int) a3_nil))) (p3_tup (a3_cons (p3_ix ix3 (p3_var 2) p3_int) (a3_cons (p3_ix ix3 (p3_var 2) p3_int) a3_nil))))))) (s3_one (s3_set 3 sc_l_sorted.nd (p3_op op3_add (p3_var 3) p3_int))))
      (s3_one (s3_expr (p3_bm PySem.F.slot_list_insert PySem.F.type_list_insert mt3_ins (p3_var 1) (a3_cons (p3_var 3) (a3_cons (p3_var 2) a3_nil))))))))
      (s3_one (s3_ret (p3_var 1))))), rd_l_sorted⟩

theorem ok_l_beside (T : Tx K mg w) : Fn P w K mg base 1 "_law_beside" P_l_beside sp_l_beside := by
  obtain ⟨f, fd, F, hm, hb⟩ := T.f_l_beside
  exact fn3 F sc_l_beside hm hb len_l_beside fun cdv A outer s H E hr => ⟨t_l_beside, (s3_one (s3_ret (p3_lst (a3_cons (p3_tup (a3_cons (p3_op op3_add (p3_ix ix3 (p3_var 0) p3_int) p3_int) (a3_cons (p3_ix ix3 (p3_var 0) p3_int) a3_nil))) (a3_cons (p3_tup (a3_cons (p3_ix ix3 (p3_var 0) p3_int) (a3_cons (p3_op op3_add (p3_ix ix3 (p3_var 0) p3_int) p3_int) a3_nil))) (a3_cons (p3_tup (a3_cons (p3_op op3_sub (p3_ix ix3 (p3_var 0) p3_int) p3_int) (a3_cons (p3_ix ix3 (p3_var 0) p3_int) a3_nil))) (a3_cons (p3_tup (a3_cons (p3_ix ix3 (p3_var 0) p3_int) (a3_cons (p3_op op3_sub (p3_ix ix3 (p3_var 0) p3_int) p3_int) a3_nil))) a3_nil))))))), rd_l_beside⟩

theorem ok_l_shuts_in (T : Tx K mg w) : Fn P w K mg base 1 "_law_shuts_in" P_l_shuts_in sp_l_shuts_in := by
  obtain ⟨f, fd, F, hm, hb⟩ := T.f_l_shuts_in
  exact fn3 F sc_l_shuts_in hm hb len_l_shuts_in fun cdv A outer s H E hr => ⟨t_l_shuts_in, (s3_cons (s3_asg (p3_var 1) (g3_pair 2 3 rfl sc_l_shuts_in.nd))
      (s3_cons (s3_set 4 sc_l_shuts_in.nd (p3_lst (a3_cons (p3_tup (a3_cons (p3_op op3_add (p3_var 2) p3_int) (a3_cons (p3_var 3) a3_nil))) (a3_cons (p3_tup (a3_cons (p3_op op3_add (p3_var 2) p3_int) (a3_cons (p3_op op3_add (p3_var 3) p3_int) a3_nil))) (a3_cons (p3_tup (a3_cons (p3_var 2) (a3_cons (p3_op op3_add (p3_var 3) p3_int) a3_nil))) (a3_cons (p3_tup (a3_cons (p3_op op3_sub (p3_var 2) p3_int) (a3_cons (p3_op op3_add (p3_var 3) p3_int) a3_nil))) a3_nil))))))
      (s3_cons (s3_set 4 sc_l_shuts_in.nd (p3_op op3_add (p3_var 4) (p3_lst (a3_cons (p3_tup (a3_cons (p3_op op3_sub (p3_var 2) p3_int) (a3_cons (p3_var 3) a3_nil))) (a3_cons (p3_tup (a3_cons (p3_op op3_sub (p3_var 2) p3_int) (a3_cons (p3_op op3_sub (p3_var 3) p3_int) a3_nil))) (a3_cons (p3_tup (a3_cons (p3_var 2) (a3_cons (p3_op op3_sub (p3_var 3) p3_int) a3_nil))) (a3_cons (p3_tup (a3_cons (p3_op op3_add (p3_var 2) p3_int) (a3_cons (p3_op op3_sub (p3_var 3) p3_int) a3_nil))) a3_nil)))))))
      (s3_cons (s3_setcomp (fv := [(0, "_law_cells")]) 5 sc_l_shuts_in.nd (by show CompOk (defScope s_l_shuts_in) N_l_shuts_in _ _ _ _; exact ⟨rfl, by decide +kernel, by decide +kernel, by decide +kernel, rfl, by decide +kernel, by decide +kernel⟩) rfl (i3_list (p3_var 4)) (fun pins cl s1 H1 fp => ifs3_nil) (fun pins cl s1 H1 fp => (p3_cmp (op3_notInX hr.units) (p3_var 0) (p3_var 1))))
      (s3_cons (s3_set 6 sc_l_shuts_in.nd p3_int)
      (s3_cons (s3_for PassesOwn.never rfl (i3_list (p3_lst (a3_cons p3_int (a3_cons p3_int (a3_cons p3_int (a3_cons p3_int a3_nil)))))) (g3_name 7 sc_l_shuts_in.nd) (s3_one (s3_if (p3_tw (p3_wand (p3_tval (p3_ix ix3 (p3_var 5) (p3_var 7))) (p3_wand1 (p3_tnot (p3_tw (p3_wand (p3_tval (p3_ix ix3 (p3_var 5) (p3_op op3_sub (p3_var 7) p3_int))) (p3_wand1 (p3_tval (p3_ix ix3 (p3_var 5) (p3_op op3_sub (p3_var 7) p3_int)))))))))) (s3_one (s3_set 6 sc_l_shuts_in.nd (p3_op op3_add (p3_var 6) p3_int))) s3_nil)))
      (s3_one (s3_ret (p3_cmp op3_gt (p3_var 6) p3_int))))))))), rd_l_shuts_in⟩

theorem ok_l_far (T : Tx K mg w) : Fn P w K mg base 1 "_law_far" P_l_far sp_l_far := by
  obtain ⟨f, fd, F, hm, hb⟩ := T.f_l_far
  exact fn3 F sc_l_far hm hb len_l_far fun cdv A outer s H E hr => ⟨t_l_far, (s3_cons (s3_if (p3_tcmp (op3_eq hr.units) (p3_op op3_mod (p3_var 0) p3_int) p3_int) (s3_one (s3_ret (p3_op op3_sub (p3_op op3_mod (p3_op op3_fdivW (p3_var 0) p3_int) p3_int) p3_int))) s3_nil)
      (s3_one (s3_ret (p3_op op3_sub (p3_op op3_mod (p3_op op3_mulW (p3_op op3_fdivW (p3_var 0) p3_int) p3_int) (p3_op op3_add (p3_op op3_mulW p3_int (p3_op op3_pow p3_int p3_int)) p3_int)) (p3_op op3_pow p3_int p3_int))))), rd_l_far⟩

theorem ok_l_border (T : Tx K mg w) : Fn P w K mg base 1 "_law_border" P_l_border sp_l_border := by
  obtain ⟨f, fd, F, hm, hb⟩ := T.f_l_border
  exact fn3 F sc_l_border hm hb len_l_border fun cdv A outer s H E hr => ⟨t_l_border, (s3_cons (s3_set 1 sc_l_border.nd p3_dnew)
      (s3_cons (s3_for PassesOwn.never rfl (i3_tup (p3_var 0)) (g3_pair 2 3 rfl sc_l_border.nd) (s3_cons (s3_if (p3_tcmp (op3_notInX hr.units) (p3_tup (a3_cons (p3_var 2) (a3_cons (p3_op op3_sub (p3_var 3) p3_int) a3_nil))) (p3_var 0)) (s3_one (s3_dput hr.units (p3_var 1) (p3_tup (a3_cons (p3_var 2) (a3_cons (p3_var 3) a3_nil))) (p3_tup (a3_cons p3_str (a3_cons (p3_tup (a3_cons (p3_op op3_add (p3_var 2) p3_int) (a3_cons (p3_var 3) a3_nil))) (a3_cons (p3_tup (a3_cons (p3_var 2) (a3_cons (p3_op op3_sub (p3_var 3) p3_int) a3_nil))) a3_nil)))))) s3_nil)
      (s3_cons (s3_if (p3_tcmp (op3_notInX hr.units) (p3_tup (a3_cons (p3_op op3_add (p3_var 2) p3_int) (a3_cons (p3_var 3) a3_nil))) (p3_var 0)) (s3_one (s3_dput hr.units (p3_var 1) (p3_tup (a3_cons (p3_op op3_add (p3_var 2) p3_int) (a3_cons (p3_var 3) a3_nil))) (p3_tup (a3_cons p3_str (a3_cons (p3_tup (a3_cons (p3_op op3_add (p3_var 2) p3_int) (a3_cons (p3_op op3_add (p3_var 3) p3_int) a3_nil))) (a3_cons (p3_tup (a3_cons (p3_op op3_add (p3_var 2) p3_int) (a3_cons (p3_var 3) a3_nil))) a3_nil)))))) s3_nil)
      (s3_cons (s3_if (p3_tcmp (op3_notInX hr.units) (p3_tup (a3_cons (p3_var 2) (a3_cons (p3_op op3_add (p3_var 3) p3_int) a3_nil))) (p3_var 0)) (s3_one (s3_dput hr.units (p3_var 1) (p3_tup (a3_cons (p3_op op3_add (p3_var 2) p3_int) (a3_cons (p3_op op3_add (p3_var 3) p3_int) a3_nil))) (p3_tup (a3_cons p3_str (a3_cons (p3_tup (a3_cons (p3_var 2) (a3_cons (p3_op op3_add (p3_var 3) p3_int) a3_nil))) (a3_cons (p3_tup (a3_cons (p3_var 2) (a3_cons (p3_op op3_add (p3_var 3) p3_int) a3_nil))) a3_nil)))))) s3_nil)
      (s3_one (s3_if (p3_tcmp (op3_notInX hr.units) (p3_tup (a3_cons (p3_op op3_sub (p3_var 2) p3_int) (a3_cons (p3_var 3) a3_nil))) (p3_var 0)) (s3_one (s3_dput hr.units (p3_var 1) (p3_tup (a3_cons (p3_var 2) (a3_cons (p3_op op3_add (p3_var 3) p3_int) a3_nil))) (p3_tup (a3_cons p3_str (a3_cons (p3_tup (a3_cons (p3_var 2) (a3_cons (p3_var 3) a3_nil))) (a3_cons (p3_tup (a3_cons (p3_op op3_sub (p3_var 2) p3_int) (a3_cons (p3_var 3) a3_nil))) a3_nil)))))) s3_nil))))))
      (s3_cons (s3_set 4 sc_l_border.nd (p3_lst a3_nil))
      (s3_cons (s3_set 5 sc_l_border.nd (p3_ix ix3 (p3_var 0) p3_int))
      (s3_cons (s3_for PassesOwn.never rfl (i3_rng1 T.m_range (p3_callB cb3_lenD rfl T.m_len (by rfl) (a3_cons (p3_var 1) a3_nil))) (g3_name 6 sc_l_border.nd) (s3_cons (s3_expr (p3_bm PySem.F.slot_list_append PySem.F.type_list_append mt3_app (p3_var 4) (a3_cons (p3_tup (a3_cons (p3_ix ix3 (p3_dget hr.units (p3_var 1) (p3_var 5)) p3_int) (a3_cons (p3_var 5) (a3_cons (p3_ix ix3 (p3_dget hr.units (p3_var 1) (p3_var 5)) p3_int) a3_nil)))) a3_nil)))
      (s3_one (s3_set 5 sc_l_border.nd (p3_ix ix3 (p3_dget hr.units (p3_var 1) (p3_var 5)) p3_int)))))
      (s3_one (s3_ret (p3_var 4)))))))), rd_l_border⟩

theorem ok_corners_of (T : Tx K mg w) : Fn P w K mg base 2 "corners_of" P_corners_of sp_corners_of := by
  obtain ⟨f, fd, F, hm, hb⟩ := T.f_corners_of
  exact fn3 F sc_corners_of hm hb len_corners_of fun cdv A outer s H E hr => ⟨t_corners_of, (s3_cons (s3_set 2 sc_corners_of.nd (p3_lst (a3_cons (p3_var 0) a3_nil)))
      (s3_cons (s3_for PassesOwn.never rfl (i3_text (p3_var 1)) (g3_name 3 sc_corners_of.nd) (s3_one (s3_expr (p3_bm PySem.F.slot_list_append PySem.F.type_list_append mt3_app (p3_var 2) (a3_cons (p3_call (ok_added T) (hr.mono (by decide)) (a3_cons (p3_ix ix3 (p3_var 2) (p3_un un3_neg p3_int)) (a3_cons (p3_kd rfl T.d_STEPS (p3_var 3)) a3_nil))) a3_nil)))))
      (s3_one (s3_ret (p3_var 2))))), rd_corners_of⟩

theorem ok_letters_by_corner (T : Tx K mg w) : Fn P w K mg base 2 "letters_by_corner" P_letters_by_corner sp_letters_by_corner := by
  obtain ⟨f, fd, F, hm, hb⟩ := T.f_letters_by_corner
  exact fn3 F sc_letters_by_corner hm hb len_letters_by_corner fun cdv A outer s H E hr => ⟨t_letters_by_corner, (s3_cons (s3_set 1 sc_letters_by_corner.nd p3_dnew)
      (s3_cons (s3_for PassesOwn.never rfl (i3_tup (p3_var 0)) (g3_name 2 sc_letters_by_corner.nd) (s3_one (s3_for PassesOwn.never rfl (i3_list (p3_call (ok_sides_of T) (hr.mono (by decide)) (a3_cons (p3_var 2) a3_nil))) (g3_name 3 sc_letters_by_corner.nd) (s3_one (s3_if (p3_tcmp (op3_notInX hr.units) (p3_ix ix3 (p3_var 3) p3_int) (p3_var 0)) (s3_one (s3_dput hr.units (p3_var 1) (p3_ix ix3 (p3_var 3) p3_int) (p3_ix ix3 (p3_var 3) p3_int))) s3_nil)))))
      (s3_one (s3_ret (p3_var 1))))), rd_letters_by_corner⟩

theorem ok_l_mix (T : Tx K mg w) : Fn P w K mg base 2 "_law_mix" P_l_mix sp_l_mix := by
  obtain ⟨f, fd, F, hm, hb⟩ := T.f_l_mix
  exact fn3 F sc_l_mix hm hb len_l_mix fun cdv A outer s H E hr => ⟨t_l_mix, (s3_one (s3_ret (p3_op op3_mod (p3_op op3_mulW (p3_op op3_mod (p3_op op3_mulW (p3_op op3_add (p3_op op3_add (p3_call (ok_l_cell_at T) (hr.mono (by decide)) (a3_cons (p3_var 0) (a3_cons (p3_var 1) a3_nil))) (p3_op op3_mulW (p3_op op3_mulW p3_int (p3_var 1)) (p3_var 1))) p3_int) p3_int) p3_int) p3_int) p3_int))), rd_l_mix⟩

theorem ok_l_is_pair (T : Tx K mg w) : Fn P w K mg base 2 "_law_is_pair" P_l_is_pair sp_l_is_pair := by
  obtain ⟨f, fd, F, hm, hb⟩ := T.f_l_is_pair
  exact fn3 F sc_l_is_pair hm hb len_l_is_pair fun cdv A outer s H E hr => ⟨t_l_is_pair, (s3_one (s3_ret (p3_and (p3_callB cb3_isi rfl T.m_isinstance (by rfl) (a3_cons (p3_var 0) (a3_cons (p3_ty rfl T.m_tuple (by rfl)) a3_nil))) (p3_and (p3_cmp (op3_eq hr.units) (p3_callB cb3_len rfl T.m_len (by rfl) (a3_cons (p3_var 0) a3_nil)) p3_int) (p3_and (p3_call (ok_l_whole T) (hr.mono (by decide)) (a3_cons (p3_ix ix3 (p3_var 0) p3_int) a3_nil)) (p3_one (p3_call (ok_l_whole T) (hr.mono (by decide)) (a3_cons (p3_ix ix3 (p3_var 0) p3_int) a3_nil)))))))), rd_l_is_pair⟩

theorem ok_border_of (T : Tx K mg w) : Fn P w K mg base 3 "border_of" P_border_of sp_border_of := by
  obtain ⟨f, fd, F, hm, hb⟩ := T.f_border_of
  exact fn3 F sc_border_of hm hb len_border_of fun cdv A outer s H E hr => ⟨t_border_of, (s3_cons (s3_set 1 sc_border_of.nd (p3_call (ok_letters_by_corner T) (hr.mono (by decide)) (a3_cons (p3_var 0) a3_nil)))
      (s3_cons (s3_set 2 sc_border_of.nd (p3_ix ix3 (p3_var 0) p3_int))
      (s3_cons (s3_set 3 sc_border_of.nd p3_str)
      (s3_cons (s3_set 4 sc_border_of.nd (p3_var 2))
      (s3_cons (s3_while PassesOwn.never (p3_tw (p3_wor (p3_tcmp (op3_eq hr.units) (p3_var 3) p3_str) (p3_wor1 (p3_tcmp (op3_ne hr.units) (p3_var 4) (p3_var 2))))) (s3_cons (s3_set 5 sc_border_of.nd (p3_dget hr.units (p3_var 1) (p3_var 4)))
      (s3_cons (s3_aug (i := 3) sc_border_of.nd op3_iadd (p3_var 5))
      (s3_one (s3_set 4 sc_border_of.nd (p3_call (ok_added T) (hr.mono (by decide)) (a3_cons (p3_var 4) (a3_cons (p3_kd rfl T.d_STEPS (p3_var 5)) a3_nil))))))))
      (s3_one (s3_ret (p3_tup (a3_cons (p3_var 2) (a3_cons (p3_var 3) a3_nil)))))))))), rd_border_of⟩

theorem ok_l_pairs (T : Tx K mg w) : Fn P w K mg base 3 "_law_pairs" P_l_pairs sp_l_pairs := by
  obtain ⟨f, fd, F, hm, hb⟩ := T.f_l_pairs
  exact fn3 F sc_l_pairs hm hb len_l_pairs fun cdv A outer s H E hr => ⟨t_l_pairs, (s3_cons (s3_if (p3_tw (p3_wor (p3_tnot (p3_tval (p3_callB cb3_isi rfl T.m_isinstance (by rfl) (a3_cons (p3_var 0) (a3_cons (p3_ty rfl T.m_list (by rfl)) a3_nil))))) (p3_wor1 (p3_tcmp (op3_ne hr.units) (p3_callB cb3_len rfl T.m_len (by rfl) (a3_cons (p3_var 0) a3_nil)) (p3_callB cb3_len rfl T.m_len (by rfl) (a3_cons (p3_var 1) a3_nil)))))) (s3_one (s3_ret p3_bl)) s3_nil)
      (s3_cons (s3_for PassesOwn.never rfl (i3_rng1 T.m_range (p3_callB cb3_len rfl T.m_len (by rfl) (a3_cons (p3_var 1) a3_nil))) (g3_name 2 sc_l_pairs.nd) (s3_one (s3_if (p3_tw (p3_wor (p3_tnot (p3_tval (p3_call (ok_l_is_pair T) (hr.mono (by decide)) (a3_cons (p3_ix ix3 (p3_var 0) (p3_var 2)) a3_nil)))) (p3_wor1 (p3_tcmp (op3_ne hr.units) (p3_ix ix3 (p3_var 0) (p3_var 2)) (p3_ix ix3 (p3_var 1) (p3_var 2)))))) (s3_one (s3_ret p3_bl)) s3_nil)))
      (s3_one (s3_ret p3_bl)))), rd_l_pairs⟩

theorem ok_l_grown (T : Tx K mg w) : Fn P w K mg base 3 "_law_grown" P_l_grown sp_l_grown := by
  obtain ⟨f, fd, F, hm, hb⟩ := T.f_l_grown
  exact fn3 F sc_l_grown hm hb len_l_grown fun cdv A outer s H E hr => ⟨t_l_grown, (s3_cons (s3_set 3 sc_l_grown.nd (p3_lst (a3_cons (p3_tup (a3_cons p3_int (a3_cons p3_int a3_nil))) a3_nil)))
      (s3_cons (s3_for PassesOwn.never rfl (i3_rng1 T.m_range (p3_op op3_mulW p3_int (p3_var 2))) (g3_name 4 sc_l_grown.nd) (s3_cons (s3_set 5 sc_l_grown.nd (p3_call (ok_l_mix T) (hr.mono (by decide)) (a3_cons (p3_var 0) (a3_cons (p3_op op3_add (p3_var 1) (p3_var 4)) a3_nil))))
      (s3_cons (s3_set 6 sc_l_grown.nd (p3_ix ix3 (p3_call (ok_l_beside T) (hr.mono (by decide)) (a3_cons (p3_ix ix3 (p3_var 3) (p3_op op3_mod (p3_var 5) (p3_callB cb3_len rfl T.m_len (by rfl) (a3_cons (p3_var 3) a3_nil)))) a3_nil)) (p3_op op3_mod (p3_op op3_fdivW (p3_var 5) p3_int) p3_int)))
      (s3_one (s3_if (p3_tw (p3_wand (p3_tcmp (op3_lt hr.units0) (p3_callB cb3_len rfl T.m_len (by rfl) (a3_cons (p3_var 3) a3_nil)) (p3_var 2)) (p3_wand (p3_tcmp (op3_notInX hr.units) (p3_var 6) (p3_var 3)) (p3_wand1 (p3_tnot (p3_tval (p3_call (ok_l_shuts_in T) (hr.mono (by decide)) (a3_cons (p3_var 3) (a3_cons (p3_var 6) a3_nil))))))))) (s3_one (s3_expr (p3_bm PySem.F.slot_list_append PySem.F.type_list_append mt3_app (p3_var 3) (a3_cons (p3_var 6) a3_nil)))) s3_nil)))))
      (s3_one (s3_ret (p3_var 3))))), rd_l_grown⟩

theorem ok_across (T : Tx K mg w) : Fn P w K mg base 4 "across" P_across sp_across := by
  obtain ⟨f, fd, F, hm, hb⟩ := T.f_across
  exact fn3 F sc_across hm hb len_across fun cdv A outer s H E hr => ⟨t_across, (s3_cons (s3_set 1 sc_across.nd (p3_call (ok_border_of T) (hr.mono (by decide)) (a3_cons (p3_var 0) a3_nil)))
      (s3_cons (s3_set 2 sc_across.nd (p3_call (ok_corners_of T) (hr.mono (by decide)) (a3_cons (p3_ix ix3 (p3_var 1) p3_int) (a3_cons (p3_ix ix3 (p3_var 1) p3_int) a3_nil))))
      (s3_one (s3_ret (p3_comp2 (fv := []) (by show CompOk (defScope s_across) N_across _ _ _ _; exact ⟨rfl, by decide +kernel, by decide +kernel, by decide +kernel, rfl, by decide +kernel, by decide +kernel⟩) rfl (i3_zip_lt T.m_zip (p3_var 2) (p3_ix ix3 (p3_var 1) p3_int)) (fun pins cl s1 H1 fp => ifs3_nil) (fun pins cl s1 H1 fp => (p3_call (ok_added T) (hr.mono (by decide)) (a3_cons (p3_var 0) (a3_cons (p3_kd rfl T.d_RIGHT_HAND (p3_var 1)) a3_nil))))))))), rd_across⟩

theorem law_ok (T : Tx K mg w) {f : Addr} {fd : FuncData} (F : Fun K "law" "law" s_law f fd) : FnOk P w K mg base CX0 5 f fd P_law (liftF K sp_law) :=
  fnok3 F sc_law len_law fun cdv A outer s H E hr => ⟨t_law, (s3_cons (s3_set 1 sc_law.nd (p3_call (ok_l_far T) (hr.mono (by decide)) (a3_cons (p3_call (ok_l_cell_at T) (hr.mono (by decide)) (a3_cons (p3_var 0) (a3_cons p3_int a3_nil))) a3_nil)))
      (s3_cons (s3_set 2 sc_law.nd (p3_call (ok_l_far T) (hr.mono (by decide)) (a3_cons (p3_call (ok_l_cell_at T) (hr.mono (by decide)) (a3_cons (p3_var 0) (a3_cons p3_int a3_nil))) a3_nil)))
      (s3_cons (s3_set 3 sc_law.nd (p3_call (ok_l_sorted T) (hr.mono (by decide)) (a3_cons (p3_call (ok_l_grown T) (hr.mono (by decide)) (a3_cons (p3_var 0) (a3_cons p3_int (a3_cons (p3_op op3_add p3_int (p3_op op3_mod (p3_call (ok_l_cell_at T) (hr.mono (by decide)) (a3_cons (p3_var 0) (a3_cons p3_int a3_nil))) p3_int)) a3_nil)))) a3_nil)))
      (s3_cons (s3_set 4 sc_law.nd (p3_callTy cb3_tuple rfl T.m_tuple (by rfl) (a3_cons (p3_comp (fv := [(1, "_law_x"), (2, "_law_y")]) (by show CompOk (defScope s_law) N_law _ _ _ _; exact ⟨rfl, by decide +kernel, by decide +kernel, by decide +kernel, rfl, by decide +kernel, by decide +kernel⟩) rfl (i3_list (p3_var 3)) (fun pins cl s1 H1 fp => ifs3_nil) (fun pins cl s1 H1 fp => (p3_tup (a3_cons (p3_op op3_add (p3_ix ix3 (p3_var 0) p3_int) (p3_var 1)) (a3_cons (p3_op op3_add (p3_ix ix3 (p3_var 0) p3_int) (p3_var 2)) a3_nil))))) a3_nil)))
      (s3_cons (s3_setcomp (fv := []) 5 sc_law.nd (by show CompOk (defScope s_law) N_law _ _ _ _; exact ⟨rfl, by decide +kernel, by decide +kernel, by decide +kernel, rfl, by decide +kernel, by decide +kernel⟩) rfl (i3_list (p3_call (ok_l_border T) (hr.mono (by decide)) (a3_cons (p3_var 4) a3_nil))) (fun pins cl s1 H1 fp => ifs3_nil) (fun pins cl s1 H1 fp => (p3_ix ix3 (p3_var 0) p3_int)))
      (s3_cons (s3_set 6 sc_law.nd (p3_call (ok_across T) (hr.mono (by decide)) (a3_cons (p3_var 4) a3_nil)))
      (s3_cons (s3_if (p3_tw (p3_wor (p3_tnot (p3_tval (p3_call (ok_l_pairs T) (hr.mono (by decide)) (a3_cons (p3_var 6) (a3_cons (p3_var 5) a3_nil))))) (p3_wor1 (p3_tval (p3_callB (cb3_any rfl) rfl T.m_any (by rfl) (a3_cons (p3_comp (fv := [(4, "_law_piece")]) (by show CompOk (defScope s_law) N_law _ _ _ _; exact ⟨rfl, by decide +kernel, by decide +kernel, by decide +kernel, rfl, by decide +kernel, by decide +kernel⟩) rfl (i3_list (p3_var 6)) (fun pins cl s1 H1 fp => ifs3_nil) (fun pins cl s1 H1 fp => (p3_cmp (op3_inX hr.units) (p3_var 0) (p3_var 1)))) a3_nil)))))) (s3_one (s3_ret p3_bl)) s3_nil)
      (s3_cons (s3_expr (p3_bm0 PySem.F.slot_list_clear PySem.F.type_list_clear mt3_clr (p3_var 6)))
      (s3_one (s3_ret (p3_call (ok_l_pairs T) (hr.mono (by decide)) (a3_cons (p3_call (ok_across T) (hr.mono (by decide)) (a3_cons (p3_var 4) a3_nil)) (a3_cons (p3_var 5) a3_nil))))))))))))), rd_law⟩

end
theorem all_mk {l : PySem.W.OpenLaw} {w : World} {K : PySem.W.Frag} {h : Heap} {mg : Str → Option Value} {fa f0 f1 f2 f3 f4 f5 f6 f7 f8 f9 f10 f11 f12 f13 f14 f15 f16 f17 : Addr} (X : K.In h) (G : h.Ns mainGlobals mg) (hfa : mg "law" = some (.ref fa))
    {od0 an0 od1 an1 od2 an2 od3 an3 od4 an4 od5 an5 od6 an6 od7 an7 od8 an8 od9 an9 od10 an10 od11 an11 od12 an12 od13 an13 od14 an14 od15 an15 od16 an16 od17 an17 : Option Addr} {sl0 sl1 sl2 sl3 sl4 sl5 sl6 sl7 sl8 sl9 sl10 sl11 sl12 sl13 sl14 sl15 sl16 sl17 : Array (Option Value)} {oc0 kV0 dc0 pm0 cd0 ct0 oc1 kV1 dc1 pm1 cd1 ct1 oc2 kV2 dc2 pm2 cd2 ct2 oc3 kV3 dc3 pm3 cd3 ct3 oc4 kV4 dc4 pm4 cd4 ct4 oc5 kV5 dc5 pm5 cd5 ct5 oc6 kV6 dc6 pm6 cd6 ct6 oc7 kV7 dc7 pm7 cd7 ct7 oc8 kV8 dc8 pm8 cd8 ct8 oc9 kV9 dc9 pm9 cd9 ct9 oc10 kV10 dc10 pm10 cd10 ct10 oc11 kV11 dc11 pm11 cd11 ct11 oc12 kV12 dc12 pm12 cd12 ct12 oc13 kV13 dc13 pm13 cd13 ct13 oc14 kV14 dc14 pm14 cd14 ct14 oc15 kV15 dc15 pm15 cd15 ct15 oc16 kV16 dc16 pm16 cd16 ct16 oc17 kV17 dc17 pm17 cd17 ct17 : Value}
    (a0 : PySem.W.nsIn K mainGlobals "added" = some (some (.ref f0))) (l0 : K.lookup f0 = some ⟨oc0, od0, .func (PySem.W.fnOf "added" "added" (defArgs s_added) (defBody s_added) (defScope s_added) .none kV0 dc0 pm0 an0 cd0 ct0), sl0⟩) (c0 : PySem.W.codeIn K cd0 "added" = true) (k0 : PySem.W.keepIn K (.ref f0) = true)
    (a1 : PySem.W.nsIn K mainGlobals "corners_of" = some (some (.ref f1))) (l1 : K.lookup f1 = some ⟨oc1, od1, .func (PySem.W.fnOf "corners_of" "corners_of" (defArgs s_corners_of) (defBody s_corners_of) (defScope s_corners_of) .none kV1 dc1 pm1 an1 cd1 ct1), sl1⟩) (c1 : PySem.W.codeIn K cd1 "corners_of" = true) (k1 : PySem.W.keepIn K (.ref f1) = true)
    (a2 : PySem.W.nsIn K mainGlobals "sides_of" = some (some (.ref f2))) (l2 : K.lookup f2 = some ⟨oc2, od2, .func (PySem.W.fnOf "sides_of" "sides_of" (defArgs s_sides_of) (defBody s_sides_of) (defScope s_sides_of) .none kV2 dc2 pm2 an2 cd2 ct2), sl2⟩) (c2 : PySem.W.codeIn K cd2 "sides_of" = true) (k2 : PySem.W.keepIn K (.ref f2) = true)
    (a3 : PySem.W.nsIn K mainGlobals "letters_by_corner" = some (some (.ref f3))) (l3 : K.lookup f3 = some ⟨oc3, od3, .func (PySem.W.fnOf "letters_by_corner" "letters_by_corner" (defArgs s_letters_by_corner) (defBody s_letters_by_corner) (defScope s_letters_by_corner) .none kV3 dc3 pm3 an3 cd3 ct3), sl3⟩) (c3 : PySem.W.codeIn K cd3 "letters_by_corner" = true) (k3 : PySem.W.keepIn K (.ref f3) = true)
    (a4 : PySem.W.nsIn K mainGlobals "border_of" = some (some (.ref f4))) (l4 : K.lookup f4 = some ⟨oc4, od4, .func (PySem.W.fnOf "border_of" "border_of" (defArgs s_border_of) (defBody s_border_of) (defScope s_border_of) .none kV4 dc4 pm4 an4 cd4 ct4), sl4⟩) (c4 : PySem.W.codeIn K cd4 "border_of" = true) (k4 : PySem.W.keepIn K (.ref f4) = true)
    (a5 : PySem.W.nsIn K mainGlobals "across" = some (some (.ref f5))) (l5 : K.lookup f5 = some ⟨oc5, od5, .func (PySem.W.fnOf "across" "across" (defArgs s_across) (defBody s_across) (defScope s_across) .none kV5 dc5 pm5 an5 cd5 ct5), sl5⟩) (c5 : PySem.W.codeIn K cd5 "across" = true) (k5 : PySem.W.keepIn K (.ref f5) = true)
    (a6 : PySem.W.nsIn K mainGlobals "_law_cell_at" = some (some (.ref f6))) (l6 : K.lookup f6 = some ⟨oc6, od6, .func (PySem.W.fnOf "_law_cell_at" "_law_cell_at" (defArgs s_l_cell_at) (defBody s_l_cell_at) (defScope s_l_cell_at) .none kV6 dc6 pm6 an6 cd6 ct6), sl6⟩) (c6 : PySem.W.codeIn K cd6 "_law_cell_at" = true) (k6 : PySem.W.keepIn K (.ref f6) = true)
    (a7 : PySem.W.nsIn K mainGlobals "_law_mix" = some (some (.ref f7))) (l7 : K.lookup f7 = some ⟨oc7, od7, .func (PySem.W.fnOf "_law_mix" "_law_mix" (defArgs s_l_mix) (defBody s_l_mix) (defScope s_l_mix) .none kV7 dc7 pm7 an7 cd7 ct7), sl7⟩) (c7 : PySem.W.codeIn K cd7 "_law_mix" = true) (k7 : PySem.W.keepIn K (.ref f7) = true)
    (a8 : PySem.W.nsIn K mainGlobals "_law_whole" = some (some (.ref f8))) (l8 : K.lookup f8 = some ⟨oc8, od8, .func (PySem.W.fnOf "_law_whole" "_law_whole" (defArgs s_l_whole) (defBody s_l_whole) (defScope s_l_whole) .none kV8 dc8 pm8 an8 cd8 ct8), sl8⟩) (c8 : PySem.W.codeIn K cd8 "_law_whole" = true) (k8 : PySem.W.keepIn K (.ref f8) = true)
    (a9 : PySem.W.nsIn K mainGlobals "_law_is_pair" = some (some (.ref f9))) (l9 : K.lookup f9 = some ⟨oc9, od9, .func (PySem.W.fnOf "_law_is_pair" "_law_is_pair" (defArgs s_l_is_pair) (defBody s_l_is_pair) (defScope s_l_is_pair) .none kV9 dc9 pm9 an9 cd9 ct9), sl9⟩) (c9 : PySem.W.codeIn K cd9 "_law_is_pair" = true) (k9 : PySem.W.keepIn K (.ref f9) = true)
    (a10 : PySem.W.nsIn K mainGlobals "_law_pairs" = some (some (.ref f10))) (l10 : K.lookup f10 = some ⟨oc10, od10, .func (PySem.W.fnOf "_law_pairs" "_law_pairs" (defArgs s_l_pairs) (defBody s_l_pairs) (defScope s_l_pairs) .none kV10 dc10 pm10 an10 cd10 ct10), sl10⟩) (c10 : PySem.W.codeIn K cd10 "_law_pairs" = true) (k10 : PySem.W.keepIn K (.ref f10) = true)
    (a11 : PySem.W.nsIn K mainGlobals "_law_sorted" = some (some (.ref f11))) (l11 : K.lookup f11 = some ⟨oc11, od11, .func (PySem.W.fnOf "_law_sorted" "_law_sorted" (defArgs s_l_sorted) (defBody s_l_sorted) (defScope s_l_sorted) .none kV11 dc11 pm11 an11 cd11 ct11), sl11⟩) (c11 : PySem.W.codeIn K cd11 "_law_sorted" = true) (k11 : PySem.W.keepIn K (.ref f11) = true)
    (a12 : PySem.W.nsIn K mainGlobals "_law_beside" = some (some (.ref f12))) (l12 : K.lookup f12 = some ⟨oc12, od12, .func (PySem.W.fnOf "_law_beside" "_law_beside" (defArgs s_l_beside) (defBody s_l_beside) (defScope s_l_beside) .none kV12 dc12 pm12 an12 cd12 ct12), sl12⟩) (c12 : PySem.W.codeIn K cd12 "_law_beside" = true) (k12 : PySem.W.keepIn K (.ref f12) = true)
    (a13 : PySem.W.nsIn K mainGlobals "_law_shuts_in" = some (some (.ref f13))) (l13 : K.lookup f13 = some ⟨oc13, od13, .func (PySem.W.fnOf "_law_shuts_in" "_law_shuts_in" (defArgs s_l_shuts_in) (defBody s_l_shuts_in) (defScope s_l_shuts_in) .none kV13 dc13 pm13 an13 cd13 ct13), sl13⟩) (c13 : PySem.W.codeIn K cd13 "_law_shuts_in" = true) (k13 : PySem.W.keepIn K (.ref f13) = true)
    (a14 : PySem.W.nsIn K mainGlobals "_law_grown" = some (some (.ref f14))) (l14 : K.lookup f14 = some ⟨oc14, od14, .func (PySem.W.fnOf "_law_grown" "_law_grown" (defArgs s_l_grown) (defBody s_l_grown) (defScope s_l_grown) .none kV14 dc14 pm14 an14 cd14 ct14), sl14⟩) (c14 : PySem.W.codeIn K cd14 "_law_grown" = true) (k14 : PySem.W.keepIn K (.ref f14) = true)
    (a15 : PySem.W.nsIn K mainGlobals "_law_far" = some (some (.ref f15))) (l15 : K.lookup f15 = some ⟨oc15, od15, .func (PySem.W.fnOf "_law_far" "_law_far" (defArgs s_l_far) (defBody s_l_far) (defScope s_l_far) .none kV15 dc15 pm15 an15 cd15 ct15), sl15⟩) (c15 : PySem.W.codeIn K cd15 "_law_far" = true) (k15 : PySem.W.keepIn K (.ref f15) = true)
    (a16 : PySem.W.nsIn K mainGlobals "_law_border" = some (some (.ref f16))) (l16 : K.lookup f16 = some ⟨oc16, od16, .func (PySem.W.fnOf "_law_border" "_law_border" (defArgs s_l_border) (defBody s_l_border) (defScope s_l_border) .none kV16 dc16 pm16 an16 cd16 ct16), sl16⟩) (c16 : PySem.W.codeIn K cd16 "_law_border" = true) (k16 : PySem.W.keepIn K (.ref f16) = true)
    (a17 : PySem.W.nsIn K mainGlobals "law" = some (some (.ref f17))) (l17 : K.lookup f17 = some ⟨oc17, od17, .func (PySem.W.fnOf "law" "law" (defArgs s_law) (defBody s_law) (defScope s_law) .none kV17 dc17 pm17 an17 cd17 ct17), sl17⟩) (c17 : PySem.W.codeIn K cd17 "law" = true) (k17 : PySem.W.keepIn K (.ref f17) = true)
    (z0 : PySem.W.nsIn K mainGlobals "any" = some none)
    (z1 : PySem.W.nsIn K mainGlobals "bool" = some none)
    (z2 : PySem.W.nsIn K mainGlobals "int" = some none)
    (z3 : PySem.W.nsIn K mainGlobals "isinstance" = some none)
    (z4 : PySem.W.nsIn K mainGlobals "len" = some none)
    (z5 : PySem.W.nsIn K mainGlobals "list" = some none)
    (z6 : PySem.W.nsIn K mainGlobals "range" = some none)
    (z7 : PySem.W.nsIn K mainGlobals "tuple" = some none)
    (z8 : PySem.W.nsIn K mainGlobals "zip" = some none)
    {dA0 dB0_0 dB0_1 dB0_2 dB0_3 : Addr} {dT0_0 dX0_0_0 dX0_0_1 dT0_1 dX0_1_0 dX0_1_1 dT0_2 dX0_2_0 dX0_2_1 dT0_3 dX0_3_0 dX0_3_1 : Tok} {dE0 dN0_0 dN0_1 dN0_2 dN0_3 : Nat}
    (dQ0 : PySem.W.nsIn K mainGlobals "STEPS" = some (some (.ref dA0))) (dR0 : K.lookup dA0 = some ⟨.type "dict", none, .dict #[⟨PyData.keyHash w.params "e", .str "e" dT0_0, .ref dB0_0⟩, ⟨PyData.keyHash w.params "n", .str "n" dT0_1, .ref dB0_1⟩, ⟨PyData.keyHash w.params "w", .str "w" dT0_2, .ref dB0_2⟩, ⟨PyData.keyHash w.params "s", .str "s" dT0_3, .ref dB0_3⟩] dE0, #[]⟩) (dU0 : (dA0 == sysModules) = false)
    (dS0_0 : K.lookup dB0_0 = some ⟨.type "tuple", none, .seq #[.int 1 dX0_0_0, .int 0 dX0_0_1] dN0_0, #[]⟩)
    (dS0_1 : K.lookup dB0_1 = some ⟨.type "tuple", none, .seq #[.int 0 dX0_1_0, .int 1 dX0_1_1] dN0_1, #[]⟩)
    (dS0_2 : K.lookup dB0_2 = some ⟨.type "tuple", none, .seq #[.int (-1) dX0_2_0, .int 0 dX0_2_1] dN0_2, #[]⟩)
    (dS0_3 : K.lookup dB0_3 = some ⟨.type "tuple", none, .seq #[.int 0 dX0_3_0, .int (-1) dX0_3_1] dN0_3, #[]⟩)
    {dA1 dB1_0 dB1_1 dB1_2 dB1_3 : Addr} {dT1_0 dX1_0_0 dX1_0_1 dT1_1 dX1_1_0 dX1_1_1 dT1_2 dX1_2_0 dX1_2_1 dT1_3 dX1_3_0 dX1_3_1 : Tok} {dE1 dN1_0 dN1_1 dN1_2 dN1_3 : Nat}
    (dQ1 : PySem.W.nsIn K mainGlobals "RIGHT_HAND" = some (some (.ref dA1))) (dR1 : K.lookup dA1 = some ⟨.type "dict", none, .dict #[⟨PyData.keyHash w.params "e", .str "e" dT1_0, .ref dB1_0⟩, ⟨PyData.keyHash w.params "n", .str "n" dT1_1, .ref dB1_1⟩, ⟨PyData.keyHash w.params "w", .str "w" dT1_2, .ref dB1_2⟩, ⟨PyData.keyHash w.params "s", .str "s" dT1_3, .ref dB1_3⟩] dE1, #[]⟩) (dU1 : (dA1 == sysModules) = false)
    (dS1_0 : K.lookup dB1_0 = some ⟨.type "tuple", none, .seq #[.int 0 dX1_0_0, .int (-1) dX1_0_1] dN1_0, #[]⟩)
    (dS1_1 : K.lookup dB1_1 = some ⟨.type "tuple", none, .seq #[.int 0 dX1_1_0, .int 0 dX1_1_1] dN1_1, #[]⟩)
    (dS1_2 : K.lookup dB1_2 = some ⟨.type "tuple", none, .seq #[.int (-1) dX1_2_0, .int 0 dX1_2_1] dN1_2, #[]⟩)
    (dS1_3 : K.lookup dB1_3 = some ⟨.type "tuple", none, .seq #[.int (-1) dX1_3_0, .int (-1) dX1_3_1] dN1_3, #[]⟩)
    : ∃ fd : FuncData, (∀ (s : Shared) (v : Value), BindsTo s fd ⟨[v], []⟩ [("_law_script", v)]) ∧ ∀ base : Heap, K.In base → base.Ns mainGlobals mg → FnOk l.prog w K mg base CX0 5 fa fd ["_law_script"] (liftF K sp_law) := by
  have F0 := fun_mk (st := s_added) l0 c0 k0
  have b0 := F0.binds (ps := P_added) fun _ _ _ _ _ _ us hl => match us, hl with | [_, _], _ => rfl
  have F1 := fun_mk (st := s_corners_of) l1 c1 k1
  have b1 := F1.binds (ps := P_corners_of) fun _ _ _ _ _ _ us hl => match us, hl with | [_, _], _ => rfl
  have F2 := fun_mk (st := s_sides_of) l2 c2 k2
  have b2 := F2.binds (ps := P_sides_of) fun _ _ _ _ _ _ us hl => match us, hl with | [_], _ => rfl
  have F3 := fun_mk (st := s_letters_by_corner) l3 c3 k3
  have b3 := F3.binds (ps := P_letters_by_corner) fun _ _ _ _ _ _ us hl => match us, hl with | [_], _ => rfl
  have F4 := fun_mk (st := s_border_of) l4 c4 k4
  have b4 := F4.binds (ps := P_border_of) fun _ _ _ _ _ _ us hl => match us, hl with | [_], _ => rfl
  have F5 := fun_mk (st := s_across) l5 c5 k5
  have b5 := F5.binds (ps := P_across) fun _ _ _ _ _ _ us hl => match us, hl with | [_], _ => rfl
  have F6 := fun_mk (st := s_l_cell_at) l6 c6 k6
  have b6 := F6.binds (ps := P_l_cell_at) fun _ _ _ _ _ _ us hl => match us, hl with | [_, _], _ => rfl
  have F7 := fun_mk (st := s_l_mix) l7 c7 k7
  have b7 := F7.binds (ps := P_l_mix) fun _ _ _ _ _ _ us hl => match us, hl with | [_, _], _ => rfl
  have F8 := fun_mk (st := s_l_whole) l8 c8 k8
  have b8 := F8.binds (ps := P_l_whole) fun _ _ _ _ _ _ us hl => match us, hl with | [_], _ => rfl
  have F9 := fun_mk (st := s_l_is_pair) l9 c9 k9
  have b9 := F9.binds (ps := P_l_is_pair) fun _ _ _ _ _ _ us hl => match us, hl with | [_], _ => rfl
  have F10 := fun_mk (st := s_l_pairs) l10 c10 k10
  have b10 := F10.binds (ps := P_l_pairs) fun _ _ _ _ _ _ us hl => match us, hl with | [_, _], _ => rfl
  have F11 := fun_mk (st := s_l_sorted) l11 c11 k11
  have b11 := F11.binds (ps := P_l_sorted) fun _ _ _ _ _ _ us hl => match us, hl with | [_], _ => rfl
  have F12 := fun_mk (st := s_l_beside) l12 c12 k12
  have b12 := F12.binds (ps := P_l_beside) fun _ _ _ _ _ _ us hl => match us, hl with | [_], _ => rfl
  have F13 := fun_mk (st := s_l_shuts_in) l13 c13 k13
  have b13 := F13.binds (ps := P_l_shuts_in) fun _ _ _ _ _ _ us hl => match us, hl with | [_, _], _ => rfl
  have F14 := fun_mk (st := s_l_grown) l14 c14 k14
  have b14 := F14.binds (ps := P_l_grown) fun _ _ _ _ _ _ us hl => match us, hl with | [_, _, _], _ => rfl
  have F15 := fun_mk (st := s_l_far) l15 c15 k15
  have b15 := F15.binds (ps := P_l_far) fun _ _ _ _ _ _ us hl => match us, hl with | [_], _ => rfl
  have F16 := fun_mk (st := s_l_border) l16 c16 k16
  have b16 := F16.binds (ps := P_l_border) fun _ _ _ _ _ _ us hl => match us, hl with | [_], _ => rfl
  have F17 := fun_mk (st := s_law) l17 c17 k17
  have b17 := F17.binds (ps := P_law) fun _ _ _ _ _ _ us hl => match us, hl with | [_], _ => rfl
  have T : Tx K mg w := ⟨⟨_, _, F0, PySem.W.mg_of X G a0, b0⟩, ⟨_, _, F1, PySem.W.mg_of X G a1, b1⟩, ⟨_, _, F2, PySem.W.mg_of X G a2, b2⟩, ⟨_, _, F3, PySem.W.mg_of X G a3, b3⟩, ⟨_, _, F4, PySem.W.mg_of X G a4, b4⟩, ⟨_, _, F5, PySem.W.mg_of X G a5, b5⟩, ⟨_, _, F6, PySem.W.mg_of X G a6, b6⟩, ⟨_, _, F7, PySem.W.mg_of X G a7, b7⟩, ⟨_, _, F8, PySem.W.mg_of X G a8, b8⟩, ⟨_, _, F9, PySem.W.mg_of X G a9, b9⟩, ⟨_, _, F10, PySem.W.mg_of X G a10, b10⟩, ⟨_, _, F11, PySem.W.mg_of X G a11, b11⟩, ⟨_, _, F12, PySem.W.mg_of X G a12, b12⟩, ⟨_, _, F13, PySem.W.mg_of X G a13, b13⟩, ⟨_, _, F14, PySem.W.mg_of X G a14, b14⟩, ⟨_, _, F15, PySem.W.mg_of X G a15, b15⟩, ⟨_, _, F16, PySem.W.mg_of X G a16, b16⟩, PySem.W.mg_none_of X G z0, PySem.W.mg_none_of X G z1, PySem.W.mg_none_of X G z2, PySem.W.mg_none_of X G z3, PySem.W.mg_none_of X G z4, PySem.W.mg_none_of X G z5, PySem.W.mg_none_of X G z6, PySem.W.mg_none_of X G z7, PySem.W.mg_none_of X G z8, ⟨_, PySem.W.mg_of X G dQ0, ⟨⟨_, _, _, dR0, ⟨rfl, rfl, rfl⟩, rfl, .cons (.tupI ⟨_, _, _, dS0_0, rfl, rfl, (by show 2 ≤ sizeLine; decide), .cons ⟨_, rfl⟩ (.cons ⟨_, rfl⟩ (.nil))⟩) (.cons (.tupI ⟨_, _, _, dS0_1, rfl, rfl, (by show 2 ≤ sizeLine; decide), .cons ⟨_, rfl⟩ (.cons ⟨_, rfl⟩ (.nil))⟩) (.cons (.tupI ⟨_, _, _, dS0_2, rfl, rfl, (by show 2 ≤ sizeLine; decide), .cons ⟨_, rfl⟩ (.cons ⟨_, rfl⟩ (.nil))⟩) (.cons (.tupI ⟨_, _, _, dS0_3, rfl, rfl, (by show 2 ≤ sizeLine; decide), .cons ⟨_, rfl⟩ (.cons ⟨_, rfl⟩ (.nil))⟩) (.nil))))⟩, by decide, dU0⟩⟩, ⟨_, PySem.W.mg_of X G dQ1, ⟨⟨_, _, _, dR1, ⟨rfl, rfl, rfl⟩, rfl, .cons (.tupI ⟨_, _, _, dS1_0, rfl, rfl, (by show 2 ≤ sizeLine; decide), .cons ⟨_, rfl⟩ (.cons ⟨_, rfl⟩ (.nil))⟩) (.cons (.tupI ⟨_, _, _, dS1_1, rfl, rfl, (by show 2 ≤ sizeLine; decide), .cons ⟨_, rfl⟩ (.cons ⟨_, rfl⟩ (.nil))⟩) (.cons (.tupI ⟨_, _, _, dS1_2, rfl, rfl, (by show 2 ≤ sizeLine; decide), .cons ⟨_, rfl⟩ (.cons ⟨_, rfl⟩ (.nil))⟩) (.cons (.tupI ⟨_, _, _, dS1_3, rfl, rfl, (by show 2 ≤ sizeLine; decide), .cons ⟨_, rfl⟩ (.cons ⟨_, rfl⟩ (.nil))⟩) (.nil))))⟩, by decide, dU1⟩⟩⟩
  have e := hfa.symm.trans (PySem.W.mg_of X G a17)
  cases e
  refine ⟨PySem.W.fnOf "law" "law" (defArgs s_law) (defBody s_law) (defScope s_law) .none kV17 dc17 pm17 an17 cd17 ct17, fun s v => .of_eq rfl, fun base _ _ => ?_⟩
  exact law_ok T F17
end Law
open PySem PySem.W PyProof.Rows
set_option maxRecDepth 100000 in
set_option maxHeartbeats 0 in
theorem PySem.Challenge.cw_borderfloor_k46_cells_across_holds : PySem.Challenge.rw_borderfloor_k46_cells_across.Holds := by
  w_on; o_law; k_head; (case hw => w_witness2)
  k_fill
  refine L2.walk_ofK (l := PySem.Challenge.rw_borderfloor_k46_cells_across) (n := 63) (k := 5) (x := "_law_script") (CX := L2.CX0) (sp := fun K => L3.liftF K Law.sp_law) rfl (by decide) rfl ⟨rfl, by decide, by decide⟩ (fun w h Y => PySem.W.kIn_of Y) ?F ?S (fun _ _ _ _ z => z)
  case F =>
    intro w mg fa h KX G hmg
    refine' Law.all_mk KX G hmg ?a0 ?l0 ?c0 ?k0 ?a1 ?l1 ?c1 ?k1 ?a2 ?l2 ?c2 ?k2 ?a3 ?l3 ?c3 ?k3 ?a4 ?l4 ?c4 ?k4 ?a5 ?l5 ?c5 ?k5 ?a6 ?l6 ?c6 ?k6 ?a7 ?l7 ?c7 ?k7 ?a8 ?l8 ?c8 ?k8 ?a9 ?l9 ?c9 ?k9 ?a10 ?l10 ?c10 ?k10 ?a11 ?l11 ?c11 ?k11 ?a12 ?l12 ?c12 ?k12 ?a13 ?l13 ?c13 ?k13 ?a14 ?l14 ?c14 ?k14 ?a15 ?l15 ?c15 ?k15 ?a16 ?l16 ?c16 ?k16 ?a17 ?l17 ?c17 ?k17 ?z0 ?z1 ?z2 ?z3 ?z4 ?z5 ?z6 ?z7 ?z8 ?dQ0 ?dR0 ?dU0 ?dS0_0 ?dS0_1 ?dS0_2 ?dS0_3 ?dQ1 ?dR1 ?dU1 ?dS1_0 ?dS1_1 ?dS1_2 ?dS1_3
    (case a0 => k_is)
    (case l0 => k_is)
    (case c0 => k_is)
    (case k0 => k_is)
    (case a1 => k_is)
    (case l1 => k_is)
    (case c1 => k_is)
    (case k1 => k_is)
    (case a2 => k_is)
    (case l2 => k_is)
    (case c2 => k_is)
    (case k2 => k_is)
    (case a3 => k_is)
    (case l3 => k_is)
    (case c3 => k_is)
    (case k3 => k_is)
    (case a4 => k_is)
    (case l4 => k_is)
    (case c4 => k_is)
    (case k4 => k_is)
    (case a5 => k_is)
    (case l5 => k_is)
    (case c5 => k_is)
    (case k5 => k_is)
    (case a6 => k_is)
    (case l6 => k_is)
    (case c6 => k_is)
    (case k6 => k_is)
    (case a7 => k_is)
    (case l7 => k_is)
    (case c7 => k_is)
    (case k7 => k_is)
    (case a8 => k_is)
    (case l8 => k_is)
    (case c8 => k_is)
    (case k8 => k_is)
    (case a9 => k_is)
    (case l9 => k_is)
    (case c9 => k_is)
    (case k9 => k_is)
    (case a10 => k_is)
    (case l10 => k_is)
    (case c10 => k_is)
    (case k10 => k_is)
    (case a11 => k_is)
    (case l11 => k_is)
    (case c11 => k_is)
    (case k11 => k_is)
    (case a12 => k_is)
    (case l12 => k_is)
    (case c12 => k_is)
    (case k12 => k_is)
    (case a13 => k_is)
    (case l13 => k_is)
    (case c13 => k_is)
    (case k13 => k_is)
    (case a14 => k_is)
    (case l14 => k_is)
    (case c14 => k_is)
    (case k14 => k_is)
    (case a15 => k_is)
    (case l15 => k_is)
    (case c15 => k_is)
    (case k15 => k_is)
    (case a16 => k_is)
    (case l16 => k_is)
    (case c16 => k_is)
    (case k16 => k_is)
    (case a17 => k_is)
    (case l17 => k_is)
    (case c17 => k_is)
    (case k17 => k_is)
    (case z0 => k_is)
    (case z1 => k_is)
    (case z2 => k_is)
    (case z3 => k_is)
    (case z4 => k_is)
    (case z5 => k_is)
    (case z6 => k_is)
    (case z7 => k_is)
    (case z8 => k_is)
    (case dQ0 => k_is)
    (case dR0 => k_is)
    (case dU0 => rfl)
    (case dS0_0 => k_is)
    (case dS0_1 => k_is)
    (case dS0_2 => k_is)
    (case dS0_3 => k_is)
    (case dQ1 => k_is)
    (case dR1 => k_is)
    (case dU1 => rfl)
    (case dS1_0 => k_is)
    (case dS1_1 => k_is)
    (case dS1_2 => k_is)
    (case dS1_3 => k_is)
  case S => exact fun K H a ns hl hO hS => L3.start_law hO hS (Law.begin_law hl)
