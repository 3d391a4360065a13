import PyProof.Rows.All
import Wide.All
import OpenK.AllK
import Wide.FinOn
import Lean
import PyProof.EqAt
import PyProof.EqKinds
import PyProof.TupleCall
import PySem.Challenge.RW_borderfloor_k24_no_grid
set_option Elab.async false
set_option linter.all false
set_option maxRecDepth 100000
/-! THE HAND LAYER, for ints, bools, texts, own classes, LISTS and tuples (index, slices, in, append, pop ..), calls, loops. Paste it whole ahead of your own text; what your proof does not reach may be deleted. -/
namespace L2
open PySem PySem.Spec PyProof.Rows

/-- a key: an int or a str -/
abbrev Key := Sum Int Str
def keyIs : Key → Value → Bool
  | .inl k, v => Value.isInt k v
  | .inr x, v => Value.isStrOf x v
def keyH (w : World) : Key → Int
  | .inl k => hashInt k
  | .inr x => hashStr w x
theorem keyIs_shape : ∀ {k : Key} {v : Value}, keyIs k v = true → (∃ i t, k = Sum.inl i ∧ v = Value.int i t) ∨ (∃ x t, k = Sum.inr x ∧ v = Value.str x t)
  | .inl i, v, h => by
    obtain ⟨t, e⟩ := Value.isInt_shape (k := i) (v := v) h
    exact .inl ⟨i, t, rfl, e⟩
  | .inr x, v, h => by
    obtain ⟨t, e⟩ := Value.isStrOf_shape (x := x) (v := v) h
    exact .inr ⟨x, t, rfl, e⟩
theorem keyIs_str (x : Str) (t : Tok) : keyIs (.inr x) (.str x t) = true := by simp [keyIs, Value.isStrOf]
theorem key_ll (a b : Int) : decide ((Sum.inl a : Key) = Sum.inl b) = (a == b) := by
  by_cases e : a = b
  · subst e; simp
  · have h : ¬ (Sum.inl a : Key) = Sum.inl b := fun q => e (Sum.inl.inj q)
    rw [decide_eq_false h]
    exact (beq_eq_false_iff_ne.mpr e).symm
theorem key_rr (a b : Str) : decide ((Sum.inr a : Key) = Sum.inr b) = decide (a = b) := by
  by_cases e : a = b
  · subst e; simp
  · have h : ¬ (Sum.inr a : Key) = Sum.inr b := fun q => e (Sum.inr.inj q)
    rw [decide_eq_false h, decide_eq_false e]
theorem key_lr (a : Int) (b : Str) : decide ((Sum.inl a : Key) = Sum.inr b) = false := decide_eq_false (fun q => nomatch q)
theorem key_rl (a : Str) (b : Int) : decide ((Sum.inr a : Key) = Sum.inl b) = false := decide_eq_false (fun q => nomatch q)

def mixKind (prog : Program) (w : World) : PySem.KeyKind prog w Key where
  is := keyIs
  hash := keyH w
  inj := fun v a b ha hb => by
    rcases keyIs_shape ha with ⟨i, t, rfl, rfl⟩ | ⟨x, t, rfl, rfl⟩
    · rcases keyIs_shape hb with ⟨j, u, rfl, e⟩ | ⟨y, u, rfl, e⟩
      · injection e with e1 _; rw [e1]
      · exact nomatch e
    · rcases keyIs_shape hb with ⟨j, u, rfl, e⟩ | ⟨y, u, rfl, e⟩
      · exact nomatch e
      · injection e with e1 _; rw [e1]
  byValue := fun k v h => by
    rcases keyIs_shape h with ⟨i, t, rfl, rfl⟩ | ⟨x, t, rfl, rfl⟩ <;> rfl
  pyHash := fun hv h => by
    rcases keyIs_shape hv with ⟨i, t, rfl, rfl⟩ | ⟨x, t, rfl, rfl⟩
    · exact wpAny_pyHash_int h
    · exact wpAny_pyHash_str h
  eqBool := fun hu hv h => by
    rcases keyIs_shape hu with ⟨i, t, rfl, rfl⟩ | ⟨x, t, rfl, rfl⟩
    · rcases keyIs_shape hv with ⟨j, u, rfl, rfl⟩ | ⟨y, u, rfl, rfl⟩
      · rw [key_ll] at h; exact wpAny_eqBool_int h
      · rw [key_lr] at h; exact SeqAt.EqAt.int_str i t y u _ _ _ _ h
    · rcases keyIs_shape hv with ⟨j, u, rfl, rfl⟩ | ⟨y, u, rfl, rfl⟩
      · rw [key_rl] at h; exact SeqAt.EqAt.str_int x t j u _ _ _ _ h
      · rw [key_rr] at h; exact wpAny_eqBool_str h
  «strs» := fun k x t v h => by
    rcases keyIs_shape h with ⟨i, u, rfl, e⟩ | ⟨y, u, rfl, e⟩
    · exact nomatch e
    · injection e with e1 _
      subst e1
      cases v <;> rfl

theorem mixKind_str (prog : Program) (w : World) (x : Str) (t : Tok) : (mixKind prog w).is (.inr x) (.str x t) = true := keyIs_str x t
end L2

namespace L2
open PySem PySem.Spec PyProof.Rows

/-- a value, without the heap -/
inductive V where
  | non | bl (b : Bool) | int (i : Int) | str (x : Str) | byt (b : Array UInt8) | flt (b : UInt64) | ref (a : Addr) | ty (n : String)
  deriving DecidableEq

def RelV : V → Value → Prop
  | .non, u => u = Value.none
  | .bl b, u => u = Value.bool b
  | .int i, u => ∃ t, u = Value.int i t
  | .str x, u => ∃ t, u = Value.str x t
  | .byt b, u => ∃ t, u = Value.bytes b t
  | .flt b, u => ∃ t, u = Value.float b t
  | .ref a, u => u = Value.ref a
  | .ty n, u => u = Value.type n

abbrev Vals : List V → List Value → Prop := Paired RelV
theorem Vals.length {xs : List V} {us : List Value} (r : Vals xs us) : xs.length = us.length := Paired.length r
theorem Vals.get : ∀ {xs : List V} {us : List Value} {i : Nat} {x : V}, Vals xs us → xs[i]? = some x → ∃ u, us[i]? = some u ∧ RelV x u
  | _, _, _, _, .nil, e => by simp at e
  | _, _, 0, _, .cons r _, e => by simp at e; subst e; exact ⟨_, rfl, r⟩
  | _, _, i + 1, x, .cons _ t, e => by
    obtain ⟨u, h1, h2⟩ := Vals.get (i := i) (x := x) t (by simpa using e)
    exact ⟨u, by simpa using h1, h2⟩
theorem Vals.set {x : V} {u : Value} (r : RelV x u) : ∀ {xs : List V} {us : List Value} (i : Nat), Vals xs us → Vals (xs.set i x) (us.set i u)
  | _, _, _, .nil => .nil
  | _, _, 0, .cons _ t => .cons r t
  | _, _, i + 1, .cons q t => .cons q (Vals.set r i t)
theorem Vals.append : ∀ {xs ys : List V} {us ws : List Value}, Vals xs us → Vals ys ws → Vals (xs ++ ys) (us ++ ws)
  | _, _, _, _, .nil, s => s
  | _, _, _, _, .cons r t, s => .cons r (Vals.append t s)
theorem Vals.take : ∀ {xs : List V} {us : List Value} (n : Nat), Vals xs us → Vals (xs.take n) (us.take n)
  | _, _, 0, _ => .nil
  | _, _, _ + 1, .nil => .nil
  | _, _, n + 1, .cons r t => .cons r (Vals.take n t)
theorem Vals.drop : ∀ {xs : List V} {us : List Value} (n : Nat), Vals xs us → Vals (xs.drop n) (us.drop n)
  | _, _, 0, r => r
  | _, _, _ + 1, .nil => .nil
  | _, _, n + 1, .cons _ t => Vals.drop n t
theorem Vals.none_of : ∀ {xs : List V} {us : List Value} {i : Nat}, Vals xs us → xs[i]? = none → us[i]? = none := fun {xs us i} r e => by
  have h1 := r.length
  have h2 : xs.length ≤ i := List.getElem?_eq_none_iff.mp e
  exact List.getElem?_eq_none_iff.mpr (by omega)

def RelO : Option V → Option Value → Prop
  | some v, some u => RelV v u
  | none, none => True
  | _, _ => False
def KV {κ : Type} : List (κ × V) → List (κ × Value) → Prop := Paired fun (p : κ × V) (q : κ × Value) => p.1 = q.1 ∧ RelV p.2 q.2

/-- a key of a dict (00_mix): an int or a text -/
def kV : Key → V
  | .inl i => .int i
  | .inr x => .str x

/-- what stands at a tracked address -/
inductive HO where
  /-- a list -/
  | lst (xs : List V)
  /-- a tuple (never changes) -/
  | tup (xs : List V)
  /-- a dict whose keys are ints and texts; one whose keys are tuples of ints and texts (the empty one is both) -/
  | dK (kvs : List (Key × V)) | dT (kvs : List (List Key × V))
  /-- a set of ints: its members, its size -/
  | set (S : Int → Bool) (n : Nat)
  /-- an instance of the class at C, its dict at dx, its attributes -/
  | ins (C dx : Addr) (fs : List (Str × V))
  /-- the dict of the instance at x -/
  | own (x : Addr)
  /-- the dict of an exception -/
  | xd (fs : List (Str × V))
  /-- a bound method, f of x -/
  | met (f x : Addr)
  /-- a range object lo, lo + 1, .. below hi -/
  | rng (lo hi : Int)
  /-- a thing that is known to the object (the script; a dict while a loop walks it): read, never written while it is so -/
  | frz (o : Obj) (u : HO)
  /-- a code object's table -/
  | tbl (ps : Array Value)
  /-- any other thing, by what is true of its one object (a def of one's own: SetO a S n := HO.ext fun h => ..) -/
  | ext (φ : Heap → Prop)

abbrev Hp := Addr → Option HO
def upd (H : Hp) (a : Addr) (o : HO) : Hp := fun b => if b = a then some o else H b
theorem upd_same {H : Hp} {a : Addr} {o : HO} : upd H a o a = some o := by unfold upd; rw [if_pos rfl]
theorem upd_ne {H : Hp} {a b : Addr} {o : HO} (h : b ≠ a) : upd H a o b = H b := by unfold upd; rw [if_neg h]
/-- two objects of different content stand apart -/
theorem ne_of {H : Hp} {a b : Addr} {o u : HO} (h : H a = some o) (h' : H b = some u) (d : o ≠ u) : a ≠ b := by
  intro e; subst e; rw [h] at h'; exact d (Option.some.inj h')
theorem ne_of_none {H : Hp} {a b : Addr} {o : HO} (h : H a = some o) (h' : H b = none) : a ≠ b := by
  intro e; subst e; rw [h] at h'; cases h'

section
variable (P : Program) (w : World)
def ObjOk (H : Hp) (h : Heap) (a : Addr) : HO → Prop
  | .lst xs => xs.length ≤ sizeLine ∧ ∃ (its : List Value) (n : Nat), Vals xs its ∧ h.get? a = some { cls := .type "list", data := .seq its.toArray n }
  | .tup xs => xs.length ≤ sizeLine ∧ ∃ its : List Value, Vals xs its ∧ IsTup h a its.toArray
  | .dK kvs => kvs.length ≤ sizeLine ∧ (a == sysModules) = false ∧ ∃ vs, KV kvs vs ∧ h.DictOf (mixKind P w) a vs
  | .dT kvs => kvs.length ≤ sizeLine ∧ (a == sysModules) = false ∧ ∃ xs : List (List Key × Addr × Value),
      Paired (fun (p : List Key × V) (q : List Key × Addr × Value) => p.1 = q.1 ∧ H q.2.1 = some (.tup (p.1.map kV)) ∧ RelV p.2 q.2.2) kvs xs ∧
      ∃ o es ep, h.get? a = some o ∧ o.ExactDict ∧ o.data = .dict es ep ∧ es.toList = xs.map (entryOfKey (tupleKind (mixKind P w))) ∧ (xs.map (·.1)).Nodup
  | .set S n => h.SetOf (intKind P w) a S n
  | .ins C dx fs => H dx = some (.own a) ∧ fs.length ≤ 1000 ∧ dx ≠ a ∧ h.get? a = some (PySem.W.instObj C dx) ∧
      ∃ mA, h.Ns1 dx mA ∧ (∀ f, RelO (fs.lookup f) (mA f)) ∧ PySem.Within mA (fs.map (·.1))
  | .own _ => ∃ o, h.get? a = some o
  | .xd fs => ∃ mA, h.Ns1 a mA ∧ ∀ f, RelO (fs.lookup f) (mA f)
  | .rng lo hi => ∃ t u v, h.get? a = some { cls := .type "range", data := .fields #[.int lo t, .int hi u, .int 1 v] }
  | .frz o u => h.get? a = some o ∧ ObjOk H h a u
  | .tbl ps => h.get? a = some { cls := .none, data := .fields ps }
  | .met f x => h.get? a = some (PySem.W.methodObj (.ref f) (.ref x))
  | .ext φ => φ h ∧ (∃ o, h.get? a = some o) ∧ ∀ h1 h2 : Heap, φ h1 → (∀ o, h1.get? a = some o → h2.get? a = some o) → φ h2
/-- the abstract heap is held -/
def HOk (H : Hp) (h : Heap) : Prop := ∀ a o, H a = some o → ObjOk P w H h a o
end

section
variable {P : Program} {w : World} {H H' : Hp} {h h' : Heap} {a : Addr} {o : HO}
theorem ObjOk.lt (x : ObjOk P w H h a o) : a < h.objs.size := by
  cases o with
  | lst xs => obtain ⟨_, _, _, _, e⟩ := x; exact Heap.lt_size e
  | tup xs => obtain ⟨_, _, _, p⟩ := x; exact p.lt
  | dK kvs => obtain ⟨_, _, _, _, o, _, _, e, _⟩ := x; exact Heap.lt_size e
  | dT kvs => obtain ⟨_, _, _, _, o, _, _, e, _⟩ := x; exact Heap.lt_size e
  | set S n => obtain ⟨o, _, _, _, e, _⟩ := x; exact Heap.lt_size e
  | ins C dx fs => obtain ⟨_, _, _, e, _⟩ := x; exact Heap.lt_size e
  | own y => obtain ⟨_, e⟩ := x; exact Heap.lt_size e
  | xd fs => obtain ⟨_, ⟨_, _, _, e, _⟩, _⟩ := x; exact Heap.lt_size e
  | rng lo hi => obtain ⟨_, _, _, e⟩ := x; exact Heap.lt_size e
  | frz ob u => obtain ⟨e, _⟩ := x; exact Heap.lt_size e
  | tbl ps => exact Heap.lt_size (show h.get? a = some _ from x)
  | met f y => exact Heap.lt_size (show h.get? a = some _ from x)
  | ext φ => obtain ⟨_, ⟨_, e⟩, _⟩ := x; exact Heap.lt_size e
theorem Paired.mapP {α β : Type} {F G : α → β → Prop} : ∀ {l₁ : List α} {l₂ : List β}, Paired F l₁ l₂ → (∀ a b, F a b → G a b) → Paired G l₁ l₂
  | _, _, .nil, _ => .nil
  | _, _, .cons r t, f => .cons (f _ _ r) (Paired.mapP t f)
/-- what an object's description leans on: its own object, its own dict, the tuples -/
theorem ObjOk.stay (x : ObjOk P w H h a o) (k : ∀ b u, (b = a ∨ H b = some (.own a)) → h.get? b = some u → h'.get? b = some u)
    (ho : ∀ b, H b = some (.own a) → H' b = some (.own a)) (ht : ∀ b xs, H b = some (.tup xs) → H' b = some (.tup xs)) : ObjOk P w H' h' a o := by
  induction o with
  | lst xs => obtain ⟨z, its, n, r, e⟩ := x; exact ⟨z, its, n, r, k _ _ (.inl rfl) e⟩
  | tup xs => obtain ⟨z, its, r, ob, e, c⟩ := x; exact ⟨z, its, r, ob, k _ _ (.inl rfl) e, c⟩
  | dK kvs => obtain ⟨z, y, vs, r, ob, es, ep, e, c⟩ := x; exact ⟨z, y, vs, r, ob, es, ep, k _ _ (.inl rfl) e, c⟩
  | dT kvs =>
    obtain ⟨z, y, xs, r, ob, es, ep, e, c⟩ := x
    exact ⟨z, y, xs, Paired.mapP r fun p q z => ⟨z.1, ht _ _ z.2.1, z.2.2⟩, ob, es, ep, k _ _ (.inl rfl) e, c⟩
  | set S n => obtain ⟨ob, es, ep, t, e, c⟩ := x; exact ⟨ob, es, ep, t, k _ _ (.inl rfl) e, c⟩
  | ins C dx fs =>
    obtain ⟨d, z, ne, e, mA, ⟨od, es, ep, e2, c⟩, r⟩ := x
    exact ⟨ho _ d, z, ne, k _ _ (.inl rfl) e, mA, ⟨od, es, ep, k _ _ (.inr d) e2, c⟩, r⟩
  | own y => obtain ⟨ob, e⟩ := x; exact ⟨ob, k _ _ (.inl rfl) e⟩
  | xd fs => obtain ⟨mA, ⟨od, es, ep, e, c⟩, r⟩ := x; exact ⟨mA, ⟨od, es, ep, k _ _ (.inl rfl) e, c⟩, r⟩
  | rng lo hi => obtain ⟨t, u, v, e⟩ := x; exact ⟨t, u, v, k _ _ (.inl rfl) e⟩
  | frz ob u ih => obtain ⟨e, q⟩ := x; exact ⟨k _ _ (.inl rfl) e, ih q⟩
  | tbl ps =>
    have e : h.get? a = some { cls := .none, data := .fields ps } := x
    show h'.get? a = some { cls := .none, data := .fields ps }
    exact k a _ (.inl rfl) e
  | met f y =>
    have e : h.get? a = some (PySem.W.methodObj (.ref f) (.ref y)) := x
    show h'.get? a = some (PySem.W.methodObj (.ref f) (.ref y))
    exact k a _ (.inl rfl) e
  | ext φ => obtain ⟨p, ⟨o, e⟩, st⟩ := x; exact ⟨st _ _ p fun o q => k _ _ (.inl rfl) q, ⟨o, k _ _ (.inl rfl) e⟩, st⟩
theorem HOk.lt (x : HOk P w H h) (e : H a = some o) : a < h.objs.size := (x a o e).lt
theorem HOk.fresh (x : HOk P w H h) (e : h.objs.size ≤ a) : H a = none := by
  cases q : H a with
  | none => rfl
  | some u => exact absurd (Nat.lt_of_lt_of_le (x.lt q) e) (Nat.lt_irrefl _)
/-- every object of the heap is kept -/
theorem HOk.kept (x : HOk P w H h) (k : ∀ b u, h.get? b = some u → h'.get? b = some u) : HOk P w H h' := fun a o e =>
  (x a o e).stay (fun b u _ q => k b u q) (fun _ q => q) fun _ _ q => q
/-- a new object is laid and tracked -/
theorem HOk.laid (x : HOk P w H h) (k : ∀ b u, h.get? b = some u → h'.get? b = some u) (hp : h.objs.size ≤ a) (new : ObjOk P w (upd H a o) h' a o) : HOk P w (upd H a o) h' := fun b u e => by
  have hn := x.fresh hp
  by_cases hb : b = a
  · subst hb; rw [upd_same] at e; cases e; exact new
  · rw [upd_ne hb] at e
    exact (x b u e).stay (fun c v _ q => k c v q) (fun c q => by rw [upd_ne (ne_of_none q hn)]; exact q) fun c xs q => by rw [upd_ne (ne_of_none q hn)]; exact q
end

/-- what may be read as u: it is u, or a known u -/
def Rd (H : Hp) (a : Addr) (u : HO) : Prop := H a = some u ∨ ∃ o, H a = some (.frz o u)
theorem Rd.of {H : Hp} {a : Addr} {u : HO} (h : H a = some u) : Rd H a u := .inl h
theorem Rd.ok {P : Program} {w : World} {H : Hp} {h : Heap} {a : Addr} {u : HO} (r : Rd H a u) (x : HOk P w H h) : ObjOk P w H h a u := by
  rcases r with r | ⟨o, r⟩
  · exact x a u r
  · obtain ⟨_, q⟩ := x a _ r
    exact q
/-- what may be written -/
def Mut : Option HO → Prop
  | some (.lst _) => True
  | some (.dK _) => True
  | some (.dT _) => True
  | some (.set _ _) => True
  | some (.ins _ _ _) => True
  | some (.ext _) => True
  | _ => False
section
variable {P : Program} {w : World} {H : Hp} {h h' : Heap} {x e : Addr} {o' : HO}
/-- the object at e is changed: x itself, or the dict of the instance x -/
theorem HOk.write (ok : HOk P w H h) (mu : Mut (H x)) (he : e = x ∨ H e = some (.own x)) (k : ∀ b u, b ≠ e → h.get? b = some u → h'.get? b = some u) (heo : ∃ u, h'.get? e = some u)
    (new : ObjOk P w (upd H x o') h' x o') : HOk P w (upd H x o') h' := fun b u q => by
  have nown : ∀ c y, H c = some (.own y) → c ≠ x := fun c y r z => by subst z; rw [r] at mu; exact mu
  have ntup : ∀ c xs, H c = some (.tup xs) → c ≠ x := fun c xs r z => by subst z; rw [r] at mu; exact mu
  by_cases hb : b = x
  · subst hb; rw [upd_same] at q; cases q; exact new
  · rw [upd_ne hb] at q
    by_cases hbe : b = e
    · have q' : H b = some (.own x) := by
        rcases he with z | z
        · exact absurd (hbe.trans z) hb
        · rw [hbe]; exact z
      rw [q] at q'; cases q'
      obtain ⟨v, hv⟩ := heo
      exact ⟨v, by rw [hbe]; exact hv⟩
    · refine (ok b u q).stay (fun c v hc r => k c v ?_ r) (fun c r => by rw [upd_ne (nown c b r)]; exact r) fun c xs r => by rw [upd_ne (ntup c xs r)]; exact r
      rcases hc with rfl | hc
      · exact hbe
      · rintro rfl
        rcases he with z | z
        · exact nown c b hc z
        · rw [hc] at z; cases z; exact hb rfl
end

/-! ### kept unless tracked; of the frames at fs (the callers') the slots may change (an exception that passes writes there); of the records at ex (iterators) nothing is said -/
structure Un (fs ex : List Addr) (H H' : Hp) (h h' : Heap) : Prop where
  keep : ∀ b o, h.get? b = some o → H b = none → b ∉ fs → b ∉ ex → h'.get? b = some o
  slot : ∀ b o, h.get? b = some o → H b = none → b ∈ fs → b ∉ ex → ∃ sl, h'.get? b = some { o with slots := sl }
  free : ∀ b o, h.get? b = some o → H b = none → b ∉ ex → H' b = none
  there : ∀ b o, h.get? b = some o → b ∉ ex → ∃ o', h'.get? b = some o'
  tups : ∀ b xs, H b = some (.tup xs) → H' b = some (.tup xs)
  frzs : ∀ b o u, H b = some (.frz o u) → H' b = some (.frz o u)
  tbls : ∀ b ps, H b = some (.tbl ps) → ∃ more, H' b = some (.tbl (ps ++ more))
section
variable {fs fs' ex ex' : List Addr} {H H1 H2 : Hp} {h h1 h2 h' : Heap} {a x e : Addr} {o : HO}
theorem Un.any (u : Un fs ex H H1 h h1) {b : Addr} {ob : Obj} (q : h.get? b = some ob) (n : H b = none) (hx : b ∉ ex) : ∃ sl, h1.get? b = some { ob with slots := sl } := by
  by_cases hb : b ∈ fs
  · exact u.slot b ob q n hb hx
  · exact ⟨ob.slots, u.keep b ob q n hb hx⟩
theorem Un.trans (a : Un fs ex H H1 h h1) (b : Un fs ex H1 H2 h1 h2) : Un fs ex H H2 h h2 where
  keep := fun c ob q n hc hx => b.keep c ob (a.keep c ob q n hc hx) (a.free c ob q n hx) hc hx
  slot := fun c ob q n hc hx => by
    obtain ⟨sl, e1⟩ := a.slot c ob q n hc hx
    obtain ⟨sl', e2⟩ := b.slot c _ e1 (a.free c ob q n hx) hc hx
    exact ⟨sl', e2⟩
  free := fun c ob q n hx => by
    obtain ⟨o', e1⟩ := a.there c ob q hx
    exact b.free c o' e1 (a.free c ob q n hx) hx
  there := fun c ob q hx => by
    obtain ⟨o', e1⟩ := a.there c ob q hx
    exact b.there c o' e1 hx
  tups := fun c xs q => b.tups c xs (a.tups c xs q)
  frzs := fun c ob xs q => b.frzs c ob xs (a.frzs c ob xs q)
  tbls := fun c ps q => by
    obtain ⟨m1, e1⟩ := a.tbls c ps q
    obtain ⟨m2, e2⟩ := b.tbls c _ e1
    exact ⟨m1 ++ m2, by rw [e2, Array.append_assoc]⟩
theorem Un.kept (k : ∀ b u, h.get? b = some u → h'.get? b = some u) : Un fs ex H H h h' :=
  ⟨fun b ob q _ _ _ => k b ob q, fun b ob q _ _ _ => ⟨ob.slots, k b ob q⟩, fun _ _ _ n _ => n, fun b ob q _ => ⟨ob, k b ob q⟩, fun _ _ q => q, fun _ _ _ q => q, fun _ ps q => ⟨#[], by rw [q]; simp⟩⟩
theorem Un.refl : Un fs ex H H h h := Un.kept fun _ _ q => q
theorem Un.laid (k : ∀ b u, h.get? b = some u → h'.get? b = some u) (hp : h.objs.size ≤ a) (hn : H a = none) : Un fs ex H (upd H a o) h h' where
  keep := fun b u q _ _ _ => k b u q
  slot := fun b u q _ _ _ => ⟨u.slots, k b u q⟩
  free := fun b u q n _ => by rw [upd_ne (Nat.ne_of_lt (Nat.lt_of_lt_of_le (Heap.lt_size q) hp))]; exact n
  there := fun b u q _ => ⟨u, k b u q⟩
  tups := fun b xs q => by rw [upd_ne (ne_of_none q hn)]; exact q
  frzs := fun b u xs q => by rw [upd_ne (ne_of_none q hn)]; exact q
  tbls := fun b ps q => ⟨#[], by rw [upd_ne (ne_of_none q hn), q]; simp⟩
theorem Un.write (mu : Mut (H x)) (he : e = x ∨ H e = some (.own x)) (k : ∀ b u, b ≠ e → h.get? b = some u → h'.get? b = some u) (heo : ∃ u, h'.get? e = some u) : Un fs ex H (upd H x o) h h' := by
  have hx : ∀ b, H b = none → b ≠ x := fun b n z => by subst z; rw [n] at mu; exact mu
  have hb : ∀ b, H b = none → b ≠ e := fun b n z => by
    subst z
    rcases he with r | r
    · exact hx b n r
    · rw [n] at r; cases r
  have hm : ∀ b u, H b = some u → ¬ Mut (some u) → b ≠ x := fun b u q nm z => by subst z; rw [q] at mu; exact nm mu
  refine ⟨fun b u q n _ _ => k b u (hb b n) q, fun b u q n _ _ => ⟨u.slots, k b u (hb b n) q⟩, fun b u q n _ => by rw [upd_ne (hx b n)]; exact n, fun b u q _ => ?_,
    fun b xs q => by rw [upd_ne (hm b _ q fun z => z)]; exact q, fun b u xs q => by rw [upd_ne (hm b _ q fun z => z)]; exact q, fun b ps q => ⟨#[], by rw [upd_ne (hm b _ q fun z => z), q]; simp⟩⟩
  by_cases hbe : b = e
  · subst hbe; exact heo
  · exact ⟨u, k b u hbe q⟩
theorem Un.mono (u : Un fs ex H H1 h h1) (hs : ∀ b ∈ fs, b ∈ fs') (hx : ∀ b ∈ ex, b ∈ ex') : Un fs' ex' H H1 h h1 :=
  ⟨fun b ob q n hb he => u.keep b ob q n (fun z => hb (hs b z)) fun z => he (hx b z), fun _ _ q n _ he => u.any q n fun z => he (hx _ z), fun b ob q n he => u.free b ob q n fun z => he (hx b z), fun b ob q he => u.there b ob q fun z => he (hx b z), u.tups, u.frzs, u.tbls⟩
end

/-! ### the heap without what is tracked -/
def trk (h : Heap) (H : Hp) : List Addr := (List.range h.objs.size).filter fun a => (H a).isSome
def hidT (h : Heap) (H : Hp) : Heap := PySem.W.hideAll h (trk h H)
theorem hidT_size (h : Heap) (H : Hp) : (hidT h H).objs.size = h.objs.size := PySem.W.hideAll_size _ _
theorem hidT_get {h : Heap} {H : Hp} {b : Addr} {o : Obj} (e : h.get? b = some o) (n : H b = none) : (hidT h H).get? b = some o :=
  PySem.W.hideAll_get _ e fun hm => by
    have q : (H b).isSome = true := (List.mem_filter.mp hm).2
    rw [n] at q; simp at q
theorem of_hidT {h : Heap} {H : Hp} {b : Addr} {o : Obj} (e : (hidT h H).get? b = some o) : h.get? b = some o ∧ H b = none := by
  have e' : h.get? b = some o := PySem.W.of_hideAll (trk h H) e
  refine ⟨e', ?_⟩
  cases q : H b with
  | none => rfl
  | some x =>
    have hm : b ∈ trk h H := List.mem_filter.mpr ⟨List.mem_range.mpr (Heap.lt_size e'), by simp [q]⟩
    have z : (hidT h H).get? b = none := PySem.W.hideAll_none (trk h H) hm
    rw [z] at e; cases e

/-! ### OpenK's ledger, filled with every new object but one -/
def allNews (g h : Heap) (L : Addr) : List (Addr × Obj) := (List.range h.objs.size).filterMap fun a => if a = L ∨ (g.get? a).isSome = true then none else (h.get? a).map fun o => (a, o)
def rest (g h : Heap) (L d : Addr) : List (Addr × Obj) := (allNews g h L).filter fun p => decide (p.1 ≠ d)
end L2

namespace L2
open PySem PySem.Spec PyProof.Rows

/-- the module's facts, over the base: the heap at the law's entry without what is tracked there -/
structure Mod (K : PySem.W.Frag) (mg : Str → Option Value) (base : Heap) : Prop where
  kin : K.In base
  glob : base.Ns mainGlobals mg
  blt : ∃ mb, base.Ns builtinsNs mb ∧ ∀ x : Str, x ≠ "__name__" → mb x = bootBuiltins x
  nolimit : base.NoLimit

/-- the context: a def's body (or a comprehension's block) running. base: fixed through the whole law; s₀, H₀: the entry; outer: the frames whose slots others may change (a def's callers); stack: all frames that run;
   ex: iterators that were made ahead of the entry and are walked here (a comprehension's); fn: the names whose cells were made at the entry (a def: all; a comprehension's block: its own); calm: not within an except suite; pn: pins that every state bears; xe: what is wanted of an exception that leaves the code -/
structure Cx where
  prog : Program
  w : World
  K : PySem.W.Frag
  mg : Str → Option Value
  base : Heap
  A : Around
  N : List Str
  s₀ : Shared
  H₀ : Hp
  env : Env
  outer : List Env
  stack : List Env
  ex : List Addr
  fn : Str → Bool
  calm : Bool
  pn : List (Addr × Obj)
  xe : Value → Shared → Prop
/-- the callers' frames -/
def frs (l : List Env) : List Addr := l.filterMap (·.frame)
abbrev Cx.fs (X : Cx) : List Addr := frs X.outer

def Vis (sc : Scope) (x : Str) : Prop := sc.names.lookup x = some .local ∨ sc.names.lookup x = some .cell ∨ sc.names.lookup x = some .free
def Loc (sc : Scope) (x : Str) : Prop := sc.names.lookup x = some .local ∨ sc.names.lookup x = some .cell
def Look (env : Env) (h : Heap) (m : Str → Option Value) (x : Str) (u : Value) : Prop :=
  (env.kindOf x = some .local ∧ m x = some u) ∨ ((env.kindOf x = some .cell ∨ env.kindOf x = some .free) ∧ ∃ c, env.cells.lookup x = some c ∧ h.IsCell c (some u))

structure Cx.Ok (X : Cx) : Prop where
  mod : Mod X.K X.mg X.base
  kind : X.env.scope.kind = .function
  glob : X.env.globals = mainGlobals
  blt : X.env.builtins = builtinsNs
  above : X.s₀.heap.objs.size ≤ X.env.locals
  inj : ∀ x y c, X.env.cells.lookup x = some c → X.env.cells.lookup y = some c → x = y
  has : ∀ x, (X.env.kindOf x = some .cell ∨ X.env.kindOf x = some .free) → ∃ c, X.env.cells.lookup x = some c
  cab : ∀ x c, X.fn x = true → X.env.cells.lookup x = some c → X.s₀.heap.objs.size ≤ c
  hd : X.calm = true → X.A.handled = none
  frames : X.A.frames = some X.stack
  stk : X.stack = X.outer ∨ (X.stack = X.env :: X.outer ∧ X.env.frame = some X.env.locals)
  exf : ∀ b ∈ X.ex, b ≠ X.env.locals ∧ ∀ x c, X.env.cells.lookup x = some c → c ≠ b
  bs : ∀ b o, X.base.get? b = some o → X.s₀.heap.get? b = some o ∧ X.H₀ b = none
  bsz : X.base.objs.size ≤ X.s₀.heap.objs.size
  noex : ∀ b o, X.base.get? b = some o → b ∉ X.ex
  exfs : ∀ b ∈ X.ex, b ∉ X.fs
  funs : X.s₀.heap.FunFrames X.base X.outer
  frf : ∀ b ∈ X.fs, X.H₀ b = none

structure Inv (X : Cx) (pins : List (Addr × Obj)) (σ : List (Option V)) (H : Hp) (s : Shared) : Prop where
  ok : X.Ok
  os : s.os = X.s₀.os
  bare : AllBare s.gens
  base : Un X.fs X.ex X.H₀ H X.s₀.heap s.heap
  loc : ∃ m, s.heap.Ns X.env.locals m ∧ ∀ (i : Nat) (x : Str) (v : V), X.N[i]? = some x → σ[i]? = some (some v) → Vis X.env.scope x → ∃ u, RelV v u ∧ Look X.env s.heap m x u
  cell : ∀ x c, X.env.cells.lookup x = some c → ∃ v, s.heap.IsCell c v
  free : H X.env.locals = none
  freeC : ∀ x c, X.env.cells.lookup x = some c → H c = none
  pin : ∀ p ∈ X.pn ++ pins, s.heap.get? p.1 = some p.2 ∧ H p.1 = none ∧ p.1 ≠ X.env.locals ∧ p.1 ∉ X.fs ∧ ∀ v, p.2.data ≠ .cell v
  hok : HOk X.prog X.w H s.heap
  len : σ.length = X.N.length

section
variable {X : Cx} {pins : List (Addr × Obj)} {σ : List (Option V)} {H H' : Hp} {s : Shared} {h' : Heap}

theorem Cx.Ok.nofr (ok : X.Ok) {b : Addr} {o : Obj} (e : X.base.get? b = some o) : b ∉ X.fs := fun hb => by
  have := (ok.funs.mem hb).1
  rw [e] at this; cases this
theorem Inv.bs (I : Inv X pins σ H s) : ∀ b o, X.base.get? b = some o → s.heap.get? b = some o ∧ H b = none := fun b o e =>
  ⟨I.base.keep b o (I.ok.bs b o e).1 (I.ok.bs b o e).2 (I.ok.nofr e) (I.ok.noex b o e), I.base.free b o (I.ok.bs b o e).1 (I.ok.bs b o e).2 (I.ok.noex b o e)⟩
theorem Inv.bk (I : Inv X pins σ H s) : ∀ b o, X.base.get? b = some o → s.heap.get? b = some o := fun b o e => (I.bs b o e).1
theorem Inv.mod (I : Inv X pins σ H s) : Mod X.K X.mg X.base := I.ok.mod
theorem Inv.kIn (I : Inv X pins σ H s) : X.K.In s.heap := I.ok.mod.kin.keeps I.bk
theorem Inv.nolimit (I : Inv X pins σ H s) : s.heap.NoLimit := I.ok.mod.nolimit.keeps I.bk
theorem Inv.lt (I : Inv X pins σ H s) : X.env.locals < s.heap.objs.size := let ⟨_, hn, _⟩ := I.loc; hn.lt
theorem Inv.sz (I : Inv X pins σ H s) : X.s₀.heap.objs.size ≤ s.heap.objs.size := Nat.le_trans I.ok.above (Nat.le_of_lt I.lt)
theorem Inv.nofs (I : Inv X pins σ H s) {a : Addr} (h : s.heap.objs.size ≤ a) : a ∉ X.fs := fun hb => by
  obtain ⟨_, o, ho, _⟩ := I.ok.funs.mem hb
  exact absurd (Nat.lt_of_lt_of_le (Heap.lt_size ho) (Nat.le_trans I.sz h)) (Nat.lt_irrefl _)
theorem Inv.cne (I : Inv X pins σ H s) : ∀ x c, X.env.cells.lookup x = some c → c ≠ X.env.locals := fun x c e z => by
  obtain ⟨v, o, ho, hd⟩ := I.cell x c e
  obtain ⟨m, ⟨o', es, ep, ho', hd', _⟩, _⟩ := I.loc
  rw [z, ho'] at ho; cases ho; rw [hd'] at hd; cases hd
theorem Inv.funs (I : Inv X pins σ H s) : s.heap.FunFrames X.base X.outer := by
  have all : ∀ (l : List Env), (∀ b ∈ frs l, b ∈ X.fs) → X.s₀.heap.FunFrames X.base l → s.heap.FunFrames X.base l := by
    intro l
    induction l with
    | nil => intro _ _; trivial
    | cons env r ih =>
      intro hs hl
      obtain ⟨hk, ⟨L, o, hf, hn, ho, hd⟩, hr⟩ := hl
      have hL : L ∈ X.fs := hs L (by unfold frs; rw [List.filterMap_cons, hf]; exact List.mem_cons_self)
      obtain ⟨sl, e⟩ := I.base.slot L o ho (I.ok.frf L hL) hL fun z => I.ok.exfs L z hL
      exact ⟨hk, ⟨L, _, hf, hn, e, hd⟩, ih (fun b hb => hs b (by unfold frs; rw [List.filterMap_cons, hf]; exact List.mem_cons_of_mem _ hb)) hr⟩
  exact all X.outer (fun _ hb => hb) I.ok.funs

/-- the frames that run, for a call -/
theorem Inv.stack (I : Inv X pins σ H s) : s.heap.FunFrames X.base X.stack := by
  rcases I.ok.stk with e | ⟨e, hf⟩
  · rw [e]; exact I.funs
  · rw [e]
    obtain ⟨m, hn, _⟩ := I.loc
    refine .cons (by rw [I.ok.kind]; decide) hf hn ?_ I.funs
    exact Heap.get?_none_of_le (Nat.le_trans I.ok.bsz I.ok.above)
theorem Inv.stkSub (I : Inv X pins σ H s) : ∀ b ∈ frs X.stack, b ∈ X.env.locals :: X.fs := fun b hb => by
  rcases I.ok.stk with e | ⟨e, hf⟩
  · rw [e] at hb; exact List.mem_cons_of_mem _ hb
  · rw [e] at hb
    unfold frs at hb
    rw [List.filterMap_cons, hf] at hb
    exact hb
theorem Inv.stkFree (I : Inv X pins σ H s) : ∀ b ∈ frs X.stack, H b = none := fun b hb => by
  rcases List.mem_cons.mp (I.stkSub b hb) with e | hb
  · rw [e]; exact I.free
  · obtain ⟨_, o, ho, _⟩ := I.ok.funs.mem hb
    exact I.base.free b o ho (I.ok.frf b hb) fun z => I.ok.exfs b z hb

/-- THE STEP: the untracked objects but the frame and the records at ch are kept (the callers' frames up to slots), the frame's map is kept, the new abstract heap is held -/
theorem Inv.step {g' : Array GenState} {t' : Nat} {d' : Drawn} {ch : List Addr} (I : Inv X pins σ H s)
    (hch : ∀ b ∈ ch, (b ∈ X.ex ∨ X.s₀.heap.objs.size ≤ b) ∧ b ≠ X.env.locals ∧ (∀ x c, X.env.cells.lookup x = some c → c ≠ b) ∧ ∀ p ∈ X.pn ++ pins, p.1 ≠ b)
    (keep : ∀ b o, b ≠ X.env.locals → b ∉ X.fs → b ∉ ch → s.heap.get? b = some o → H b = none → h'.get? b = some o)
    (slot : ∀ b o, b ≠ X.env.locals → b ∈ X.fs → b ∉ ch → s.heap.get? b = some o → H b = none → ∃ sl, h'.get? b = some { o with slots := sl }) (free : ∀ b o, b ∉ ch → s.heap.get? b = some o → H b = none → H' b = none)
    (there : ∀ b o, b ∉ ch → s.heap.get? b = some o → ∃ o', h'.get? b = some o')
    (tups : ∀ b xs, H b = some (.tup xs) → H' b = some (.tup xs)) (frzs : ∀ b o u, H b = some (.frz o u) → H' b = some (.frz o u)) (tbls : ∀ b ps, H b = some (.tbl ps) → ∃ more, H' b = some (.tbl (ps ++ more)))
    (ns : ∀ m, s.heap.Ns X.env.locals m → h'.Ns X.env.locals m) (hok : HOk X.prog X.w H' h') (hg : AllBare g') :
    Inv X pins σ H' { s with heap := h', gens := g', drawn := d', toks := t' } := by
  have neL : ∀ b o, X.s₀.heap.get? b = some o → b ≠ X.env.locals := fun b o e => Nat.ne_of_lt (Nat.lt_of_lt_of_le (Heap.lt_size e) I.ok.above)
  have neC : ∀ b o, X.s₀.heap.get? b = some o → b ∉ X.ex → b ∉ ch := fun b o e hx hb => by
    rcases (hch b hb).1 with z | z
    · exact hx z
    · exact absurd (Nat.lt_of_lt_of_le (Heap.lt_size e) z) (Nat.lt_irrefl _)
  have cellK : ∀ x c, X.env.cells.lookup x = some c → ∀ v, s.heap.IsCell c v → h'.IsCell c v := fun x c e v ⟨o, ho, hd⟩ => by
    have nch : c ∉ ch := fun z => (hch c z).2.2.1 x c e rfl
    by_cases hc : c ∈ X.fs
    · obtain ⟨sl, q⟩ := slot c o (I.cne x c e) hc nch ho (I.freeC x c e)
      exact ⟨_, q, hd⟩
    · exact ⟨o, keep c o (I.cne x c e) hc nch ho (I.freeC x c e), hd⟩
  refine ⟨I.ok, I.os, hg, ⟨fun b o e n hb hx => ?_, fun b o e n hb hx => ?_, fun b o e n hx => ?_, fun b o e hx => ?_, fun b xs e => tups b xs (I.base.tups b xs e), fun b o xs e => frzs b o xs (I.base.frzs b o xs e), fun b ps e => ?_⟩, ?_, fun x c e => ?_, ?_, fun x c e => ?_, fun p hp => ?_, hok, I.len⟩
  · exact keep b o (neL b o e) hb (neC b o e hx) (I.base.keep b o e n hb hx) (I.base.free b o e n hx)
  · obtain ⟨sl, e1⟩ := I.base.slot b o e n hb hx
    obtain ⟨sl', e2⟩ := slot b _ (neL b o e) hb (neC b o e hx) e1 (I.base.free b o e n hx)
    exact ⟨sl', e2⟩
  · obtain ⟨o', e1⟩ := I.base.there b o e hx
    exact free b o' (neC b o e hx) e1 (I.base.free b o e n hx)
  · obtain ⟨o', e1⟩ := I.base.there b o e hx
    exact there b o' (neC b o e hx) e1
  · obtain ⟨m1, e1⟩ := I.base.tbls b ps e
    obtain ⟨m2, e2⟩ := tbls b _ e1
    exact ⟨m1 ++ m2, by rw [e2, Array.append_assoc]⟩
  · obtain ⟨m, hn, hl⟩ := I.loc
    refine ⟨m, ns m hn, fun i x v e1 e2 e3 => ?_⟩
    obtain ⟨u, r, l⟩ := hl i x v e1 e2 e3
    refine ⟨u, r, ?_⟩
    rcases l with l | ⟨k, c, e, z⟩
    · exact .inl l
    · exact .inr ⟨k, c, e, cellK x c e _ z⟩
  · obtain ⟨v, z⟩ := I.cell x c e
    exact ⟨v, cellK x c e v z⟩
  · obtain ⟨m, ⟨o, _, _, ho, _⟩, _⟩ := I.loc
    exact free _ o (fun z => (hch _ z).2.1 rfl) ho I.free
  · obtain ⟨v, o, ho, hd⟩ := I.cell x c e
    exact free c o (fun z => (hch c z).2.2.1 x c e rfl) ho (I.freeC x c e)
  · obtain ⟨e, n, ne, nf, d⟩ := I.pin p hp
    have nch : p.1 ∉ ch := fun z => (hch p.1 z).2.2.2 p hp rfl
    exact ⟨keep p.1 p.2 ne nf nch e n, free p.1 p.2 nch e n, ne, nf, d⟩
/-- .. where the frame's own object is kept too -/
theorem Inv.un {t' : Nat} (I : Inv X pins σ H s) (u : Un X.fs [] H H' s.heap h') (hok : HOk X.prog X.w H' h') : Inv X pins σ H' { s with heap := h', toks := t' } := by
  obtain ⟨m, ⟨o, es, ep, ho, r⟩, _⟩ := id I.loc
  obtain ⟨sl, hL⟩ := u.any ho I.free (by simp)
  exact I.step (g' := s.gens) (d' := s.drawn) (ch := []) (fun _ z => nomatch z) (fun b o _ hb _ e n => u.keep b o e n hb (by simp)) (fun b o _ hb _ e n => u.slot b o e n hb (by simp)) (fun b o _ e n => u.free b o e n (by simp)) (fun b o _ e => u.there b o e (by simp)) u.tups u.frzs u.tbls (fun m' hm => by
    obtain ⟨o', es', ep', ho', r'⟩ := hm
    rw [ho] at ho'; cases ho'
    exact ⟨_, es', ep', hL, r'⟩) hok I.bare
/-- behind a call (or a comprehension's block): the slots of this frame may have changed too, the records at ch may have turned -/
theorem Inv.call {g' : Array GenState} {t' : Nat} {d' : Drawn} {ch : List Addr} (I : Inv X pins σ H s) (u : Un (frs X.stack) ch H H' s.heap h') (hok : HOk X.prog X.w H' h') (hg : AllBare g')
    (hch : ∀ b ∈ ch, (b ∈ X.ex ∨ X.s₀.heap.objs.size ≤ b) ∧ b ≠ X.env.locals ∧ (∀ x c, X.env.cells.lookup x = some c → c ≠ b) ∧ ∀ p ∈ X.pn ++ pins, p.1 ≠ b) :
    Inv X pins σ H' { s with heap := h', gens := g', drawn := d', toks := t' } := by
  obtain ⟨m, ⟨o, es, ep, ho, r⟩, _⟩ := id I.loc
  obtain ⟨sl, hL⟩ := u.any ho I.free fun z => (hch _ z).2.1 rfl
  exact I.step (ch := ch) hch (fun b o hL hb hc e n => u.keep b o e n (fun z => (List.mem_cons.mp (I.stkSub b z)).elim hL hb) hc) (fun b o _ _ hc e n => u.any e n hc) (fun b o hc e n => u.free b o e n hc) (fun b o hc e => u.there b o e hc) u.tups u.frzs u.tbls (fun m' hm => by
    obtain ⟨o', es', ep', ho', r'⟩ := hm
    rw [ho] at ho'; cases ho'
    exact ⟨_, es', ep', hL, r'⟩) hok hg
/-- an untracked record of ours (an iterator) has turned -/
theorem Inv.turned {t' : Nat} {it : Addr} (I : Inv X pins σ H s) (k : ∀ b o, b ≠ it → s.heap.get? b = some o → h'.get? b = some o) (hn : H it = none) (hL : it ≠ X.env.locals)
    (h1 : it ∈ X.ex ∨ X.s₀.heap.objs.size ≤ it) (h2 : ∀ x c, X.env.cells.lookup x = some c → c ≠ it) (h3 : ∀ p ∈ X.pn ++ pins, p.1 ≠ it) : Inv X pins σ H { s with heap := h', toks := t' } := by
  have nit : ∀ b u, H b = some u → b ≠ it := fun b u e z => by rw [z, hn] at e; cases e
  refine I.step (g' := s.gens) (d' := s.drawn) (ch := [it]) (fun b hb => ?_) (fun b o _ _ hc e _ => k b o (fun z => hc (by simp [z])) e) (fun b o _ _ hc e _ => ⟨o.slots, k b o (fun z => hc (by simp [z])) e⟩) (fun _ _ _ _ n => n)
    (fun b o hc e => ⟨o, k b o (fun z => hc (by simp [z])) e⟩) (fun _ _ e => e) (fun _ _ _ e => e) (fun b ps e => ⟨#[], by rw [e]; simp⟩) (fun m hm => ?_) (fun b u e => ?_) I.bare
  · have e : b = it := by simpa using hb
    subst e
    exact ⟨h1, hL, h2, h3⟩
  · obtain ⟨o, es, ep, ho, r⟩ := hm
    exact ⟨o, es, ep, k _ o (Ne.symm hL) ho, r⟩
  · refine (I.hok b u e).stay (fun c v hc q => k c v ?_ q) (fun _ q => q) fun _ _ q => q
    rcases hc with z | z
    · rw [z]; exact nit b u e
    · exact nit c _ z
theorem Inv.tok (I : Inv X pins σ H s) (t : Nat) : Inv X pins σ H { s with toks := t } := I.un (h' := s.heap) (t' := t) Un.refl I.hok
/-- all objects kept -/
theorem Inv.kept {t' : Nat} (I : Inv X pins σ H s) (k : ∀ b u, s.heap.get? b = some u → h'.get? b = some u) : Inv X pins σ H { s with heap := h', toks := t' } := I.un (Un.kept k) (I.hok.kept k)
/-- a new object laid and tracked -/
theorem Inv.laid {a : Addr} {o : HO} {t' : Nat} (I : Inv X pins σ H s) (k : ∀ b u, s.heap.get? b = some u → h'.get? b = some u) (hp : s.heap.objs.size ≤ a) (new : ObjOk X.prog X.w (upd H a o) h' a o) :
    Inv X pins σ (upd H a o) { s with heap := h', toks := t' } := I.un (Un.laid k hp (I.hok.fresh hp)) (I.hok.laid k hp new)
/-- an object written -/
theorem Inv.write {x e : Addr} {o : HO} {t' : Nat} (I : Inv X pins σ H s) (mu : Mut (H x)) (he : e = x ∨ H e = some (.own x)) (k : ∀ b u, b ≠ e → s.heap.get? b = some u → h'.get? b = some u) (heo : ∃ u, h'.get? e = some u)
    (new : ObjOk X.prog X.w (upd H x o) h' x o) : Inv X pins σ (upd H x o) { s with heap := h', toks := t' } := I.un (Un.write mu he k heo) (I.hok.write mu he k heo new)
/-- forgetting slots, pins -/
theorem Inv.weak {σ' : List (Option V)} (I : Inv X pins σ H s) (hl : σ'.length = σ.length) (w : ∀ (i : Nat) v, σ'[i]? = some (some v) → σ[i]? = some (some v)) : Inv X pins σ' H s :=
  ⟨I.ok, I.os, I.bare, I.base, let ⟨m, hn, hl'⟩ := I.loc; ⟨m, hn, fun i x v e1 e2 e3 => hl' i x v e1 (w i v e2) e3⟩, I.cell, I.free, I.freeC, I.pin, I.hok, hl.trans I.len⟩
theorem Inv.pins_of {pins' : List (Addr × Obj)} (I : Inv X pins σ H s) (h : ∀ p ∈ pins', s.heap.get? p.1 = some p.2 ∧ H p.1 = none ∧ p.1 ≠ X.env.locals ∧ p.1 ∉ X.fs ∧ ∀ v, p.2.data ≠ .cell v) : Inv X pins' σ H s :=
  ⟨I.ok, I.os, I.bare, I.base, I.loc, I.cell, I.free, I.freeC, fun p hp => (List.mem_append.mp hp).elim (fun z => I.pin p (List.mem_append_left _ z)) (h p), I.hok, I.len⟩

theorem nodup_ix {N : List Str} (hN : N.Nodup) {i j : Nat} {x : Str} (a : N[i]? = some x) (b : N[j]? = some x) : i = j := by
  obtain ⟨h1, e1⟩ := List.getElem?_eq_some_iff.mp a
  obtain ⟨h2, e2⟩ := List.getElem?_eq_some_iff.mp b
  exact (List.getElem_inj hN).mp (e1.trans e2.symm)

/-- a name is stored; what changed -/
theorem store_ok2 {M : Model} {A : Around} {E : Value → Shared → Prop} {i : Nat} {x : Str} {v : V} {u : Value} {Q : Unit → Shared → Prop} (I : Inv X pins σ H s) (hN : X.N.Nodup) (hi : X.N[i]? = some x) (hx : Loc X.env.scope x) (r : RelV v u)
    (h : ∀ s', Inv X pins (σ.set i (some v)) H s' → (∃ a, Heap.SameBut a s.heap s'.heap ∧ (a = X.env.locals ∨ X.env.cells.lookup x = some a)) → Q () s') (hf : X.fn x = true ∨ X.env.scope.names.lookup x = some .local := by first | exact .inl rfl | exact .inr rfl | assumption) : wpAny M A (storeName X.env x u) Q E s := by
  obtain ⟨m, hn, hl⟩ := id I.loc
  have hcls : (X.env.scope.kind == .class || (X.env.scope.kind == .module && X.env.locals != X.env.globals)) = false := by rw [I.ok.kind]; rfl
  have hiσ : i < σ.length := by rw [I.len]; exact (List.getElem?_eq_some_iff.mp hi).1
  have cne := I.cne
  have tracked : ∀ {a : Addr} {h' : Heap}, (∃ o, s.heap.get? a = some o ∧ H a = none) → Heap.SameBut a s.heap h' → HOk X.prog X.w H h' := fun {a h'} ha hs b ob e => by
    obtain ⟨_, _, hfree⟩ := ha
    refine (I.hok b ob e).stay (fun c w' hc q => (hs.2 c ?_).trans q) (fun _ q => q) fun _ _ q => q
    rintro rfl
    rcases hc with rfl | hc
    · rw [hfree] at e; cases e
    · rw [hfree] at hc; cases hc
  rcases hx with hk | hk
  · refine wpAny_storeName_local hk hn (fun h' hn' hs => ?_) hcls
    obtain ⟨oL, _, _, hoL, _⟩ := id hn
    refine h _ ⟨I.ok, I.os, I.bare, ⟨fun b o e n hb hx => ?_, fun b o e n hb hx => ?_, I.base.free, fun b o e hx => ?_, I.base.tups, I.base.frzs, I.base.tbls⟩, ⟨_, hn', fun j y v' e1 e2 e3 => ?_⟩, fun y c e => ?_, I.free, I.freeC, fun p hp => ?_, tracked ⟨oL, hoL, I.free⟩ hs, by simpa using I.len⟩ ⟨_, hs, .inl rfl⟩
    · exact (hs.2 b (Nat.ne_of_lt (Nat.lt_of_lt_of_le (Heap.lt_size e) I.ok.above))).trans (I.base.keep b o e n hb hx)
    · obtain ⟨sl, e1⟩ := I.base.slot b o e n hb hx
      exact ⟨sl, (hs.2 b (Nat.ne_of_lt (Nat.lt_of_lt_of_le (Heap.lt_size e) I.ok.above))).trans e1⟩
    · obtain ⟨o', e1⟩ := I.base.there b o e hx
      exact ⟨o', (hs.2 b (Nat.ne_of_lt (Nat.lt_of_lt_of_le (Heap.lt_size e) I.ok.above))).trans e1⟩
    · by_cases hj : j = i
      · subst hj
        rw [hi] at e1; cases e1
        rw [List.getElem?_set_self hiσ] at e2
        cases e2
        exact ⟨u, r, .inl ⟨hk, by simp⟩⟩
      · rw [List.getElem?_set_ne (Ne.symm hj)] at e2
        obtain ⟨u', r', q⟩ := hl j y v' e1 e2 e3
        refine ⟨u', r', ?_⟩
        rcases q with ⟨k, e⟩ | ⟨k, c, e, z⟩
        · refine .inl ⟨k, ?_⟩
          have : y ≠ x := fun e => hj (nodup_ix hN e1 (e ▸ hi))
          simp [this, e]
        · exact .inr ⟨k, c, e, z.sameBut hs (cne y c e)⟩
    · obtain ⟨w', z⟩ := I.cell y c e
      exact ⟨w', z.sameBut hs (cne y c e)⟩
    · obtain ⟨e, n, ne, nf, d⟩ := I.pin p hp
      exact ⟨(hs.2 p.1 ne).trans e, n, ne, nf, d⟩
  · have hfn : X.fn x = true := by
      rcases hf with z | z
      · exact z
      · rw [z] at hk; cases hk
    obtain ⟨c, hc⟩ := I.ok.has x (.inl hk)
    obtain ⟨w', z⟩ := I.cell x c hc
    refine wpAny_storeName_cell I.ok.kind hk hc z (fun h' hc' hs => ?_)
    obtain ⟨oc, hoc, hocd⟩ := id z
    refine h { s with heap := h' } ⟨I.ok, I.os, I.bare, ⟨fun b o e n hb hx => ?_, fun b o e n hb hx => ?_, I.base.free, fun b o e hx => ?_, I.base.tups, I.base.frzs, I.base.tbls⟩, ⟨m, hn.sameBut hs (Ne.symm (cne x c hc)), fun j y v' e1 e2 e3 => ?_⟩, fun y c' e => ?_, I.free, I.freeC, fun p hp => ?_, tracked ⟨oc, hoc, I.freeC x c hc⟩ hs, by simpa using I.len⟩ ⟨c, hs, .inr hc⟩
    · exact (hs.2 b (Nat.ne_of_lt (Nat.lt_of_lt_of_le (Heap.lt_size e) (I.ok.cab x c hfn hc)))).trans (I.base.keep b o e n hb hx)
    · obtain ⟨sl, e1⟩ := I.base.slot b o e n hb hx
      exact ⟨sl, (hs.2 b (Nat.ne_of_lt (Nat.lt_of_lt_of_le (Heap.lt_size e) (I.ok.cab x c hfn hc)))).trans e1⟩
    · obtain ⟨o', e1⟩ := I.base.there b o e hx
      exact ⟨o', (hs.2 b (Nat.ne_of_lt (Nat.lt_of_lt_of_le (Heap.lt_size e) (I.ok.cab x c hfn hc)))).trans e1⟩
    · by_cases hj : j = i
      · subst hj
        rw [hi] at e1; cases e1
        rw [List.getElem?_set_self hiσ] at e2
        cases e2
        exact ⟨u, r, .inr ⟨.inl hk, c, hc, hc'⟩⟩
      · rw [List.getElem?_set_ne (Ne.symm hj)] at e2
        obtain ⟨u', r', q⟩ := hl j y v' e1 e2 e3
        refine ⟨u', r', ?_⟩
        rcases q with q | ⟨k, c', e, z'⟩
        · exact .inl q
        · refine .inr ⟨k, c', e, z'.sameBut hs ?_⟩
          rintro rfl
          exact hj (nodup_ix hN e1 (I.ok.inj _ _ _ e hc ▸ hi))
    · by_cases hcc : c' = c
      · subst hcc; exact ⟨_, hc'⟩
      · obtain ⟨w2, z2⟩ := I.cell y c' e
        exact ⟨w2, z2.sameBut hs hcc⟩
    · obtain ⟨e, n, ne, nf, d⟩ := I.pin p hp
      refine ⟨(hs.2 p.1 ?_).trans e, n, ne, nf, d⟩
      intro q
      rw [q, hoc] at e
      have q' : oc = p.2 := Option.some.inj e
      exact d w' (by rw [← q']; exact hocd)
theorem store_ok {M : Model} {A : Around} {E : Value → Shared → Prop} {i : Nat} {x : Str} {v : V} {u : Value} {Q : Unit → Shared → Prop} (I : Inv X pins σ H s) (hN : X.N.Nodup) (hi : X.N[i]? = some x) (hx : Loc X.env.scope x) (r : RelV v u)
    (h : ∀ s', Inv X pins (σ.set i (some v)) H s' → Q () s') (hf : X.fn x = true ∨ X.env.scope.names.lookup x = some .local := by first | exact .inl rfl | exact .inr rfl | assumption) : wpAny M A (storeName X.env x u) Q E s :=
  store_ok2 I hN hi hx r (fun s' I' _ => h s' I') hf
/-- behind a call or a block, the state as it is -/
theorem Inv.call' {s' : Shared} {ch : List Addr} (I : Inv X pins σ H s) (ho : s'.os = s.os) (u : Un (frs X.stack) ch H H' s.heap s'.heap) (hok : HOk X.prog X.w H' s'.heap) (hg : AllBare s'.gens)
    (hch : ∀ b ∈ ch, (b ∈ X.ex ∨ X.s₀.heap.objs.size ≤ b) ∧ b ≠ X.env.locals ∧ (∀ x c, X.env.cells.lookup x = some c → c ≠ b) ∧ ∀ p ∈ X.pn ++ pins, p.1 ≠ b) : Inv X pins σ H' s' := by
  obtain ⟨h', g', d', t', o'⟩ := s'
  have e : o' = s.os := ho
  subst e
  exact I.call (g' := g') (t' := t') (d' := d') u hok hg hch
end

/-! ### the judgements -/
/-- an exception: its class, its own dict's address (where it has one), the abstract heap behind it -/
abbrev XK := Value → Option Addr → Hp → Prop
abbrev St := List (Option V)
abbrev VK := V → Hp → Prop
/-- an expression's reading; a test's; an argument list's -/
abbrev TE := St → Hp → VK → Prop
abbrev TT := St → Hp → (Bool → Hp → Prop) → Prop
abbrev TA := St → Hp → (List V → Hp → Prop) → Prop
/-- what is wanted behind a statement -/
structure Ends where
  nx : St → Hp → Prop
  rt : VK
  bk : St → Hp → Prop := fun _ _ => False
  ct : St → Hp → Prop := fun _ _ => False
abbrev TS := Ends → St → Hp → Prop

def EP (X : Cx) (pins : List (Addr × Obj)) (σ : St) (Q : VK) (u : Value) (s' : Shared) : Prop := ∃ v H', Inv X pins σ H' s' ∧ RelV v u ∧ Q v H'
def TP (X : Cx) (pins : List (Addr × Obj)) (σ : St) (Q : Bool → Hp → Prop) (b : Bool) (s' : Shared) : Prop := ∃ H', Inv X pins σ H' s' ∧ Q b H'
def AP (X : Cx) (pins : List (Addr × Obj)) (σ : St) (Q : List V → Hp → Prop) (us : List Value) (s' : Shared) : Prop := ∃ vs H', Inv X pins σ H' s' ∧ Vals vs us ∧ Q vs H'
def SP (X : Cx) (pins : List (Addr × Obj)) (D : Ends) (f : Flow) (s' : Shared) : Prop :=
  match f with
  | .next => ∃ σ' H', Inv X pins σ' H' s' ∧ D.nx σ' H'
  | .brk => ∃ σ' H', Inv X pins σ' H' s' ∧ D.bk σ' H'
  | .cont => ∃ σ' H', Inv X pins σ' H' s' ∧ D.ct σ' H'
  | .ret u => ∃ v σ' H', Inv X pins σ' H' s' ∧ RelV v u ∧ D.rt v H'

def PE (X : Cx) (e : Expr) (t : TE) : Prop :=
  ∀ (pins : List (Addr × Obj)) (s : Shared) (σ : St) (H : Hp) (Q : VK), Inv X pins σ H s → t σ H Q → wpAny (model X.prog X.w) X.A (eval e X.env) (EP X pins σ Q) X.xe s
def PT (X : Cx) (e : Expr) (t : TT) : Prop :=
  ∀ (pins : List (Addr × Obj)) (s : Shared) (σ : St) (H : Hp) (Q : Bool → Hp → Prop), Inv X pins σ H s → t σ H Q → wpAny (model X.prog X.w) X.A (isTrue e X.env (eval e X.env)) (TP X pins σ Q) X.xe s
/-- a test whatever its 'whole' is (and, or) -/
def PW (X : Cx) (e : Expr) (t : TT) : Prop :=
  ∀ (whole : Sem Value) (pins : List (Addr × Obj)) (s : Shared) (σ : St) (H : Hp) (Q : Bool → Hp → Prop), Inv X pins σ H s → t σ H Q → wpAny (model X.prog X.w) X.A (isTrue e X.env whole) (TP X pins σ Q) X.xe s
theorem PW.pt {X : Cx} {e : Expr} {t : TT} (h : PW X e t) : PT X e t := h _
/-- an argument list (no star), from the left -/
def PA (X : Cx) (es : List Expr) (t : TA) : Prop :=
  ∀ (pos : Pos) (pins : List (Addr × Obj)) (s : Shared) (σ : St) (H : Hp) (Q : List V → Hp → Prop), Inv X pins σ H s → t σ H Q → wpAny (model X.prog X.w) X.A (spliced (backTo pos (starEach es X.env))) (AP X pins σ Q) X.xe s
def PS (X : Cx) (st : Stmt) (t : TS) : Prop :=
  ∀ (pins : List (Addr × Obj)) (s : Shared) (σ : St) (H : Hp) (D : Ends), Inv X pins σ H s → t D σ H → wpAny (model X.prog X.w) X.A (exec st X.env) (SP X pins D) X.xe s
def PSs (X : Cx) (st : List Stmt) (t : TS) : Prop :=
  ∀ (pins : List (Addr × Obj)) (s : Shared) (σ : St) (H : Hp) (D : Ends), Inv X pins σ H s → t D σ H → wpAny (model X.prog X.w) X.A (execs st X.env) (SP X pins D) X.xe s
/-- weaken the end -/
theorem thn {α : Type} {t : Sem α} {Q Q' : α → Shared → Prop} {M : Model} {A : Around} {E : Value → Shared → Prop} {s : Shared} (h : wpAny M A t Q E s) (hQ : ∀ a s, Q a s → Q' a s) : wpAny M A t Q' E s := wpAny_mono h hQ fun _ _ x => x
end L2

namespace L2
open PySem PySem.Spec PyProof.Rows
section
variable {X : Cx}

/-! ### names and constants -/
def tVar (i : Nat) : TE := fun σ H Q => ∃ v, σ[i]? = some (some v) ∧ Q v H
def tC (v : V) : TE := fun _ H Q => Q v H
theorem pe_var {i : Nat} {x : Str} {pos : Pos} (hN : X.N[i]? = some x) (hv : Vis X.env.scope x) (hd : (x == ("__debug__" : Str)) = false := by decide) (hcd : (x == ("__classdict__" : Str)) = false := by decide) : PE X (.Name x pos) (tVar i) := by
  intro pins s σ H Q I h
  obtain ⟨v, e, h⟩ := h
  obtain ⟨m, hn, hl⟩ := I.loc
  obtain ⟨u, r, l⟩ := hl i x v hN e hv
  have fin : EP X pins σ Q u s := ⟨v, H, I, r, h⟩
  rcases l with ⟨hk, hm⟩ | ⟨hk, c, hc, hcell⟩
  · exact wpAny_Name (wpAny_loadName_local I.ok.kind hk hn hm fin) hd
  · rcases hk with hk | hk
    · exact wpAny_Name (wpAny_loadName_cell I.ok.kind hk hc hcell fin) hd
    · exact wpAny_Name (wpAny_loadName_free I.ok.kind hk hc hcell fin hcd) hd
theorem pe_int {i j pos} : PE X (.Constant (.int i) j pos) (tC (.int i)) := fun _ _ _ H _ I h => wpAny_Constant_int ⟨.int i, H, I.tok _, ⟨_, rfl⟩, h⟩
theorem pe_bl {b j pos} : PE X (.Constant (.bool b) j pos) (tC (.bl b)) := fun _ _ _ H _ I h => Constant_bool ⟨.bl b, H, I, rfl, h⟩
theorem pe_non {j pos} : PE X (.Constant .none j pos) (tC .non) := fun _ _ _ H _ I h => Constant_none ⟨.non, H, I, rfl, h⟩
theorem pe_str {x j pos} : PE X (.Constant (.str x) j pos) (tC (.str x)) := fun _ _ _ H _ I h => Calls.Constant_str ⟨.str x, H, I.tok _, ⟨_, rfl⟩, h⟩

/-- a global name of the def -/
def Gl (X : Cx) (x : Str) : Prop := X.env.kindOf x = some .globalImplicit
theorem ld_glob {E : Value → Shared → Prop} {pins : List (Addr × Obj)} {s : Shared} {σ : St} {H : Hp} {x : Str} {u : Value} {pos : Pos} {Q : Value → Shared → Prop} (I : Inv X pins σ H s) (hg : Gl X x) (hm : X.mg x = some u) (h : Q u s)
    (hd : (x == ("__debug__" : Str)) = false := by decide) : wpAny (model X.prog X.w) X.A (eval (.Name x pos) X.env) Q E s :=
  Calls.Name_function_global I.ok.kind hg (Calls.loadGlobal_global (by rw [I.ok.glob]; exact I.mod.glob.keeps I.bk) hm h) hd
theorem ld_blt {E : Value → Shared → Prop} {pins : List (Addr × Obj)} {s : Shared} {σ : St} {H : Hp} {x : Str} {u : Value} {pos : Pos} {Q : Value → Shared → Prop} (I : Inv X pins σ H s) (hg : Gl X x) (hm : X.mg x = none) (hv : bootBuiltins x = some u) (h : Q u s)
    (hn : x ≠ "__name__" := by decide) (hd : (x == ("__debug__" : Str)) = false := by decide) : wpAny (model X.prog X.w) X.A (eval (.Name x pos) X.env) Q E s := by
  obtain ⟨mb, h1, h2⟩ := I.mod.blt
  exact Calls.Name_function_global I.ok.kind hg (Calls.loadGlobal_builtin (by rw [I.ok.glob]; exact I.mod.glob.keeps I.bk) hm (by rw [I.ok.blt]; exact h1.keeps I.bk) ((h2 x hn).trans hv) h) hd
theorem pe_bltn {x : Str} {v : V} {u : Value} {pos : Pos} (hg : Gl X x) (hm : X.mg x = none) (hv : bootBuiltins x = some u) (r : RelV v u) (hn : x ≠ "__name__" := by decide) (hd : (x == ("__debug__" : Str)) = false := by decide) : PE X (.Name x pos) (tC v) :=
  fun _ _ _ H _ I h => ld_blt I hg hm hv ⟨v, H, I, r, h⟩ hn hd

/-! ### arithmetic -/
variable {a b : Expr} {ta tb : TE} {pos : Pos}
/-! ### comparisons -/
/-- a comparison as a value, as a test -/
def tB (t : TE) : TT := fun σ H Q => t σ H fun x H1 => ∃ c, x = .bl c ∧ Q c H1
/-- an expression whose value is a bool, as a test -/
theorem pt_val {e : Expr} {t : TE} (h : PE X e t) (he : ∀ whole, isTrue e X.env whole = (do let v ← whole; standAt e.pos; holding [v] (truthy v)) := by intro _; rfl) : PT X e (tB t) := by
  intro pins s σ H Q I hw
  refine isTrue_plain (thn (h pins s σ H _ I hw) fun v s1 ⟨x, H1, I1, r1, q1⟩ => ?_) (he _)
  obtain ⟨d, rfl, q⟩ := q1
  cases r1
  exact wpAny_truthy_bool ⟨H1, I1, q⟩

/-! ### and, or, not -/
variable {tA tB' : TT} {rest : List Expr}
def tOr (t u : TT) : TT := fun σ H Q => t σ H fun c H1 => if c = true then Q true H1 else u σ H1 Q
def tNot (t : TT) : TT := fun σ H Q => t σ H fun c H1 => Q (!c) H1
theorem pw_or1 (ha : PT X a tA) : PW X (.BoolOp .Or [a] pos) tA := by
  intro wh pins s σ H Q I h
  refine isTrue_or (thn (ha pins s σ H Q I h) fun c s1 e => ?_)
  cases c with
  | false => exact isTrue_or_nil e
  | true => exact e
theorem pw_or (ha : PT X a tA) (hb : PW X (.BoolOp .Or (b :: rest) pos) tB') : PW X (.BoolOp .Or (a :: b :: rest) pos) (tOr tA tB') := by
  intro wh pins s σ H Q I h
  refine isTrue_or (thn (ha pins s σ H _ I h) fun c s1 ⟨H1, I1, q1⟩ => ?_)
  cases c with
  | true => exact ⟨H1, I1, q1⟩
  | false => exact hb wh pins s1 σ H1 Q I1 q1
theorem pt_not (ha : PT X a tA) : PT X (.UnaryOp .Not a pos) (tNot tA) := by
  intro pins s σ H Q I h
  exact isTrue_not (ha pins s σ H (fun c H1 => Q (!c) H1) I h)
/-- .. as values (bools) -/
def tAndV (ta tb : TE) : TE := fun σ H Q => ta σ H fun x H1 => ∃ c, x = .bl c ∧ if c = true then tb σ H1 Q else Q (.bl false) H1
def tNotV (ta : TE) : TE := fun σ H Q => ta σ H fun x H1 => ∃ c, x = .bl c ∧ Q (.bl (!c)) H1
theorem pe_one {op} {t : TE} (h : PE X a t) : PE X (.BoolOp op [a] pos) t := fun pins s σ H Q I hw => BoolOp_one (h pins s σ H Q I hw)
theorem pe_and (ha : PE X a ta) (hb : PE X (.BoolOp .And (b :: rest) pos) tb) : PE X (.BoolOp .And (a :: b :: rest) pos) (tAndV ta tb) := by
  intro pins s σ H Q I h
  refine BoolOp_and (thn (ha pins s σ H _ I h) fun v s1 ⟨x, H1, I1, r1, q1⟩ => ?_)
  obtain ⟨c, rfl, q1⟩ := q1
  cases r1
  refine wpAny_truthy_bool ?_
  cases c with
  | true => exact hb pins s1 σ H1 Q I1 q1
  | false => exact ⟨.bl false, H1, I1, rfl, q1⟩
theorem pe_not (ha : PE X a ta) : PE X (.UnaryOp .Not a pos) (tNotV ta) := by
  intro pins s σ H Q I h
  refine UnaryOp_ (thn (ha pins s σ H _ I h) fun v s1 ⟨x, H1, I1, r1, q1⟩ => ?_)
  obtain ⟨c, rfl, q1⟩ := q1
  cases r1
  exact not_of (wpAny_truthy_bool ⟨.bl (!c), H1, I1, rfl, q1⟩)
end
end L2

namespace L2
open PySem PySem.Spec PyProof.Rows

/-! ### a list, a tuple that is read: tracked, frozen, or an object of the module -/
def SqL (K : PySem.W.Frag) (H : Hp) (a : Addr) (xs : List V) : Prop :=
  Rd H a (.lst xs) ∨
    ∃ (o : Obj) (its : Array Value) (n : Nat), K.lookup a = some o ∧ o.cls = .type "list" ∧ o.dict = none ∧ o.data = .seq its n ∧ its.size ≤ sizeLine ∧ Vals xs its.toList
def SqT (K : PySem.W.Frag) (H : Hp) (a : Addr) (xs : List V) : Prop :=
  Rd H a (.tup xs) ∨
    ∃ (o : Obj) (its : Array Value) (n : Nat), K.lookup a = some o ∧ o.cls = .type "tuple" ∧ o.data = .seq its n ∧ its.size ≤ sizeLine ∧ Vals xs its.toList
def absV : Value → Option V
  | .none => some .non
  | .bool b => some (.bl b)
  | .int i _ => some (.int i)
  | .str x _ => some (.str x)
  | .bytes b _ => some (.byt b)
  | .float b _ => some (.flt b)
  | .ref a => some (.ref a)
  | .type n => some (.ty n)
  | _ => none
theorem RelV.abs {x : V} {u : Value} (r : RelV x u) : absV u = some x := by
  cases x with
  | non => cases r; rfl
  | bl _ => cases r; rfl
  | int _ => obtain ⟨t, rfl⟩ := r; rfl
  | str _ => obtain ⟨t, rfl⟩ := r; rfl
  | byt _ => obtain ⟨t, rfl⟩ := r; rfl
  | flt _ => obtain ⟨t, rfl⟩ := r; rfl
  | ref _ => cases r; rfl
  | ty _ => cases r; rfl
theorem RelV.inj {x y : V} {u : Value} (r : RelV x u) (q : RelV y u) : x = y := Option.some.inj (r.abs.symm.trans q.abs)
theorem Vals.inj : ∀ {xs ys : List V} {us : List Value}, Vals xs us → Vals ys us → xs = ys
  | _, _, _, .nil, .nil => rfl
  | _, _, _, .cons r t, .cons r' t' => by rw [r.inj r', Vals.inj t t']
section
variable {X : Cx} {pins : List (Addr × Obj)} {σ : St} {H : Hp} {s : Shared} {a : Addr} {xs ys : List V}
theorem SqL.of {K : PySem.W.Frag} (h : H a = some (.lst xs)) : SqL K H a xs := .inl (.inl h)
theorem SqT.of {K : PySem.W.Frag} (h : H a = some (.tup xs)) : SqT K H a xs := .inl (.inl h)
theorem Inv.list (I : Inv X pins σ H s) (h : SqL X.K H a xs) : ∃ its : List Value, Vals xs its ∧ PlainL s.heap a its.toArray ∧ xs.length ≤ sizeLine := by
  rcases h with h | ⟨o, its, n, hk, hc, hd, hs, hz, r⟩
  · obtain ⟨z, its, n, r, e⟩ := h.ok I.hok
    exact ⟨its, r, ⟨_, n, e, rfl, rfl, rfl⟩, z⟩
  · refine ⟨its.toList, r, ⟨o, n, I.kIn a o hk, hc, hd, by simpa using hs⟩, ?_⟩
    have e := r.length
    simp only [Array.length_toList] at e
    omega
theorem Inv.tuple (I : Inv X pins σ H s) (h : SqT X.K H a xs) : ∃ its : List Value, Vals xs its ∧ IsTup s.heap a its.toArray ∧ xs.length ≤ sizeLine := by
  rcases h with h | ⟨o, its, n, hk, hc, hs, hz, r⟩
  · obtain ⟨z, its, r, p⟩ := h.ok I.hok
    exact ⟨its, r, p, z⟩
  · refine ⟨its.toList, r, ⟨o, I.kIn a o hk, hc, n, by simpa using hs⟩, ?_⟩
    have e := r.length
    simp only [Array.length_toList] at e
    omega
theorem Inv.list_inj (I : Inv X pins σ H s) (h : SqL X.K H a xs) (h' : SqL X.K H a ys) : xs = ys := by
  obtain ⟨its, r, ⟨o, n, e, _, _, d⟩, _⟩ := I.list h
  obtain ⟨its', r', ⟨o', n', e', _, _, d'⟩, _⟩ := I.list h'
  rw [e] at e'; cases e'
  rw [d] at d'
  injection d' with d1 _
  have : its = its' := by simpa using congrArg Array.toList d1
  subst this
  exact r.inj r'
theorem Inv.tuple_inj (I : Inv X pins σ H s) (h : SqT X.K H a xs) (h' : SqT X.K H a ys) : xs = ys := by
  obtain ⟨its, r, ⟨o, e, _, n, d⟩, _⟩ := I.tuple h
  obtain ⟨its', r', ⟨o', e', _, n', d'⟩, _⟩ := I.tuple h'
  rw [e] at e'; cases e'
  rw [d] at d'
  injection d' with d1 _
  have : its = its' := by simpa using congrArg Array.toList d1
  subst this
  exact r.inj r'
end

/-! ### another wish about exceptions -/
abbrev Cx.wish (X : Cx) (E : Value → Shared → Prop) : Cx := { X with xe := E }
/-- no exception leaves -/
abbrev Cx.nox (X : Cx) : Cx := X.wish fun _ _ => False
theorem Cx.Ok.wish {X : Cx} (ok : X.Ok) (E : Value → Shared → Prop) : (X.wish E).Ok :=
  ⟨ok.mod, ok.kind, ok.glob, ok.blt, ok.above, ok.inj, ok.has, ok.cab, ok.hd, ok.frames, ok.stk, ok.exf, ok.bs, ok.bsz, ok.noex, ok.exfs, ok.funs, ok.frf⟩
theorem Cx.Ok.unwish {X : Cx} {E : Value → Shared → Prop} (ok : (X.wish E).Ok) : X.Ok :=
  ⟨ok.mod, ok.kind, ok.glob, ok.blt, ok.above, ok.inj, ok.has, ok.cab, ok.hd, ok.frames, ok.stk, ok.exf, ok.bs, ok.bsz, ok.noex, ok.exfs, ok.funs, ok.frf⟩
section
variable {X : Cx} {pins : List (Addr × Obj)} {σ : St} {H : Hp} {s : Shared} {E : Value → Shared → Prop}
theorem Inv.wish (I : Inv X pins σ H s) (E : Value → Shared → Prop) : Inv (X.wish E) pins σ H s := ⟨I.ok.wish E, I.os, I.bare, I.base, I.loc, I.cell, I.free, I.freeC, I.pin, I.hok, I.len⟩
theorem Inv.unwish (I : Inv (X.wish E) pins σ H s) : Inv X pins σ H s := ⟨I.ok.unwish, I.os, I.bare, I.base, I.loc, I.cell, I.free, I.freeC, I.pin, I.hok, I.len⟩
theorem SP.unwish {D : Ends} {f : Flow} {s' : Shared} (h : SP (X.wish E) pins D f s') : SP X pins D f s' := by
  cases f with
  | next => obtain ⟨σ', H', I, q⟩ := h; exact ⟨σ', H', I.unwish, q⟩
  | brk => obtain ⟨σ', H', I, q⟩ := h; exact ⟨σ', H', I.unwish, q⟩
  | cont => obtain ⟨σ', H', I, q⟩ := h; exact ⟨σ', H', I.unwish, q⟩
  | ret u => obtain ⟨v, σ', H', I, r, q⟩ := h; exact ⟨v, σ', H', I.unwish, r, q⟩
theorem PE.nox {e : Expr} {t : TE} (h : PE X.nox e t) : PE X e t := fun pins s σ H Q I hw =>
  wpAny_mono (h pins s σ H Q (I.wish _) hw) (fun _ _ ⟨v, H', I', r, q⟩ => ⟨v, H', I'.unwish, r, q⟩) fun _ _ z => False.elim z
theorem PT.nox {e : Expr} {t : TT} (h : PT X.nox e t) : PT X e t := fun pins s σ H Q I hw =>
  wpAny_mono (h pins s σ H Q (I.wish _) hw) (fun _ _ ⟨H', I', q⟩ => ⟨H', I'.unwish, q⟩) fun _ _ z => False.elim z
theorem PSs.nox {st : List Stmt} {t : TS} (h : PSs X.nox st t) : PSs X st t := fun pins s σ H D I hw =>
  wpAny_mono (h pins s σ H D (I.wish _) hw) (fun _ _ q => q.unwish) fun _ _ z => False.elim z
end

/-! ### blocks and small statements -/
section
variable {X : Cx} {st : Stmt} {rest : List Stmt} {t u : TS} {e : Expr} {te : TE} {pos : Pos}
def tNext : TS := fun D σ H => D.nx σ H
def tSeq (t u : TS) : TS := fun D σ H => t { D with nx := u D } σ H
theorem pss_nil : PSs X [] tNext := fun _ _ σ H _ I h => wpAny_execs_nil ⟨σ, H, I, h⟩
theorem pss_cons (h1 : PS X st t) (h2 : PSs X rest u) : PSs X (st :: rest) (tSeq t u) := by
  intro pins s σ H D I h
  refine wpAny_execs_cons (thn (h1 pins s σ H { D with nx := u D } I h) fun f s1 q => ?_)
  cases f with
  | next =>
    obtain ⟨σ', H', I', q⟩ := q
    exact h2 pins s1 σ' H' D I' q
  | ret v => exact q
  | brk => exact q
  | cont => exact q
theorem pss_one (h1 : PS X st t) : PSs X [st] t := by
  intro pins s σ H D I h
  refine wpAny_execs_cons (thn (h1 pins s σ H D I h) fun f s1 q => ?_)
  cases f with
  | next => exact wpAny_execs_nil q
  | ret v => exact q
  | brk => exact q
  | cont => exact q
/-- in a def's body nothing is shown -/
theorem Inv.quiet {pins : List (Addr × Obj)} {σ : St} {H : Hp} {s : Shared} (I : Inv X pins σ H s) : interactive X.env = false := by simp [interactive, I.ok.kind]
/-- an expression whose value is dropped -/
def tDrop (te : TE) : TS := fun D σ H => te σ H fun _ H1 => D.nx σ H1
theorem ps_expr (he : PE X e te) (hs : swapsWith e none pos.line X.env = pure false := by rfl) : PS X (.Expr e pos) (tDrop te) := by
  intro pins s σ H D I h
  exact wpAny_Expr_any (thn (he pins s σ H _ I h) fun v s1 ⟨x, H1, I1, r1, q1⟩ => ⟨σ, H1, I1, q1⟩) I.quiet hs
def tRet (te : TE) : TS := fun D σ H => te σ H D.rt
theorem ps_ret (he : PE X e te) : PS X (.Return (some e) pos) (tRet te) := by
  intro pins s σ H D I h
  exact wpAny_Return_some (thn (he pins s σ H _ I h) fun v s1 ⟨x, H1, I1, r1, q1⟩ => ⟨x, σ, H1, I1, r1, q1⟩)
def tIfS (c : TT) (t u : TS) : TS := fun D σ H => c σ H fun b H1 => if b = true then t D σ H1 else u D σ H1
theorem ps_if {c : Expr} {a b : List Stmt} {tc : TT} (hc : PT X c tc) (ha : PSs X a t) (hb : PSs X b u) : PS X (.If c a b pos) (tIfS tc t u) := by
  intro pins s σ H D I h
  refine wpAny_If (thn (hc pins s σ H _ I h) fun d s1 ⟨H1, I1, q1⟩ => ?_)
  cases d with
  | true => exact ha pins s1 σ H1 D I1 q1
  | false => exact hb pins s1 σ H1 D I1 q1
end

/-! ### targets -/
abbrev TG := V → St → Hp → (St → Hp → Prop) → Prop
abbrev TGs := List V → St → Hp → (St → Hp → Prop) → Prop
def PG (X : Cx) (target : Expr) (t : TG) : Prop :=
  ∀ (pins : List (Addr × Obj)) (s : Shared) (σ : St) (H : Hp) (v : V) (u : Value) (Q : St → Hp → Prop), Inv X pins σ H s → RelV v u → t v σ H Q →
    wpAny (model X.prog X.w) X.A (assign target X.env u) (fun _ s' => ∃ σ' H', Inv X pins σ' H' s' ∧ Q σ' H') X.xe s
/-- several targets, one after another -/
def PGs (X : Cx) (ts : List Expr) (t : TGs) : Prop :=
  ∀ (pins : List (Addr × Obj)) (s : Shared) (σ : St) (H : Hp) (vs : List V) (us : List Value) (Q : St → Hp → Prop), Inv X pins σ H s → Vals vs us → t vs σ H Q →
    wpAny (model X.prog X.w) X.A (assignInOrder ((assignEach ts X.env).map (·.2)) us) (fun _ s' => ∃ σ' H', Inv X pins σ' H' s' ∧ Q σ' H') X.xe s
section
variable {X : Cx} {pos : Pos}
def gName (i : Nat) : TG := fun v σ H Q => Q (σ.set i (some v)) H
theorem pg_name {i : Nat} {x : Str} (hN : X.N.Nodup) (hi : X.N[i]? = some x) (hx : Loc X.env.scope x) (hf : X.fn x = true ∨ X.env.scope.names.lookup x = some .local := by first | exact .inl rfl | exact .inr rfl | assumption) : PG X (.Name x pos) (gName i) := by
  intro pins s σ H v u Q I r h
  exact wpAny_assign_Name (store_ok I hN hi hx r (fun s' I' => ⟨_, H, I', h⟩) hf)
def gNil : TGs := fun vs σ H Q => vs = [] ∧ Q σ H
def gCons (t : TG) (u : TGs) : TGs := fun vs σ H Q => ∃ v r, vs = v :: r ∧ t v σ H fun σ' H' => u r σ' H' Q
theorem pgs_nil : PGs X [] gNil := by
  intro pins s σ H vs us Q I r h
  obtain ⟨e, h⟩ := h
  subst e
  cases r
  exact assignInOrder_nil ⟨σ, H, I, h⟩
theorem pgs_cons {e : Expr} {es : List Expr} {t : TG} {u : TGs} (h1 : PG X e t) (h2 : PGs X es u)
    (hs : (assignEach (e :: es) X.env).map (·.2) = assign e X.env :: (assignEach es X.env).map (·.2) := by rfl) : PGs X (e :: es) (gCons t u) := by
  intro pins s σ H vs us Q I r h
  obtain ⟨v, vr, e1, h⟩ := h
  subst e1
  cases r with
  | cons r rr =>
    rw [hs]
    refine assignInOrder_cons (thn (h1 pins s σ H _ _ _ I r h) fun _ s1 ⟨σ1, H1, I1, q1⟩ => ?_)
    exact h2 pins s1 σ1 H1 _ _ Q I1 rr q1
/-- (a, b, ..) = a tuple of that length -/
def gTup (K : PySem.W.Frag) (n : Nat) (t : TGs) : TG := fun v σ H Q => ∃ a xs, v = .ref a ∧ SqT K H a xs ∧ xs.length = n ∧ t xs σ H Q
theorem pg_tup {es : List Expr} {k : Nat} {t : TGs} {n : Nat} (hc : X.calm = true) (h : PGs X es t)
    (hn : (assignEach es X.env).length = n := by rfl) (hst : (assignEach es X.env).findIdx? (·.1) = none := by rfl) : PG X (.Tuple es k pos) (gTup X.K n t) := by
  intro pins s σ H v u Q I r hw
  obtain ⟨a, xs, e1, hq, hl, hw⟩ := hw
  subst e1
  cases r
  obtain ⟨its, rv, ht, hz⟩ := I.tuple hq
  refine assign_Tuple_tuple (I.ok.hd hc) ht (by simp [hn, ← hl, rv.length]) hst fun h' hx => ?_
  have I1 : Inv X pins σ H { s with heap := h' } := I.kept (t' := s.toks) fun b o e => hx b o (Nat.ne_of_lt (Heap.lt_size e)) e
  exact h pins _ σ H xs _ Q I1 (by simpa using rv) hw
/-- target = value -/
def tAsg (te : TE) (g : TG) : TS := fun D σ H => te σ H fun x H1 => g x σ H1 D.nx
theorem ps_asg {tg e : Expr} {te : TE} {g : TG} (he : PE X e te) (hg : PG X tg g) (hs : swapsWithSole [tg] e pos.line X.env = pure false := by rfl) (hw : swappedStores [tg] e X.env = pure none := by rfl)
    (h1 : (assignEach [tg] X.env).map (·.2) = [assign tg X.env] := by rfl) : PS X (.Assign [tg] e pos) (tAsg te g) := by
  intro pins s σ H D I h
  refine wpAny_Assign_stores (thn (he pins s σ H _ I h) fun v s1 ⟨x, H1, I1, r1, q1⟩ => ?_) hs hw
  rw [h1]
  exact thn (hg pins s1 σ H1 x v _ I1 r1 q1) fun _ s2 q => q
/-- name = value -/
theorem ps_set {i : Nat} {x : Str} {e : Expr} {te : TE} {pos' : Pos} (hN : X.N.Nodup) (hi : X.N[i]? = some x) (hx : Loc X.env.scope x) (he : PE X e te) (hs : swapsWith e (some (.Name x pos')) pos.line X.env = pure false := by rfl) (hf : X.fn x = true ∨ X.env.scope.names.lookup x = some .local := by first | exact .inl rfl | exact .inr rfl | assumption) :
    PS X (.Assign [.Name x pos'] e pos) (tAsg te (gName i)) := by
  intro pins s σ H D I h
  refine wpAny_Assign_Name (thn (he pins s σ H _ I h) fun v s1 ⟨y, H1, I1, r1, q1⟩ => ?_) hs
  exact store_ok I1 hN hi hx r1 (fun s2 I2 => ⟨_, H1, I2, q1⟩) hf
/-- a, b = x, y with plain local names: stored from the right; the pair itself is not tracked (the opening rows as in PyProof/Rows/TupAssign.lean:23) -/
def tPar (i j : Nat) (ta : TA) : TS := fun D σ H => ta σ H fun vs H1 => ∃ v w, vs = [v, w] ∧ D.nx ((σ.set i (some v)).set j (some w)) H1
theorem ps_par {i j : Nat} {x y : Str} {a b : Expr} {ta : TA} {px py pt : Pos} {kt k2 pt2} (hc : X.calm = true) (hN : X.N.Nodup) (hi : X.N[i]? = some x) (hj : X.N[j]? = some y) (hij : i ≠ j)
    (hx : X.env.scope.names.lookup x = some .local) (hy : X.env.scope.names.lookup y = some .local) (ha : PA X [a, b] ta)
    (hw : swappedStores [.Tuple [.Name x px, .Name y py] kt pt] (.Tuple [a, b] k2 pt2) X.env = pure (some [x, y]))
    (hs : swapsWithSole [.Tuple [.Name x px, .Name y py] kt pt] (.Tuple [a, b] k2 pt2) pos.line X.env = pure false := by rfl) :
    PS X (.Assign [.Tuple [.Name x px, .Name y py] kt pt] (.Tuple [a, b] k2 pt2) pos) (tPar i j ta) := by
  intro pins s σ H D I h
  rw [exec_Assign_arm]
  refine wpAny_bind (wpAny_standAt ?_)
  rw [hs]
  refine wpAny_bind (wpAny_pure ?_)
  rw [if_neg (by decide)]
  refine wpAny_bind (Tuple_ (thn (ha _ pins s σ H _ I h) fun us s1 ⟨vs, H1, I1, r1, q1⟩ => ?_))
  obtain ⟨v, w, e1, q1⟩ := q1
  subst e1
  obtain ⟨u1, u2, rfl, rv, rw'⟩ : ∃ u1 u2, us = [u1, u2] ∧ RelV v u1 ∧ RelV w u2 := by
    cases r1 with
    | cons p q =>
      cases q with
      | cons p' q' =>
        cases q'
        exact ⟨_, _, rfl, p, p'⟩
  refine wpAny_newObj_type ?_ (by show 2 ≤ sizeLine; decide)
  have I2 : Inv X pins σ H1 { s1 with heap := s1.heap.push { cls := .type "tuple", data := .seq [u1, u2].toArray } } := I1.kept (t' := s1.toks) fun b o e => Heap.get?_push_of_some _ e
  rw [hw]
  refine wpAny_bind (wpAny_pure ?_)
  show wpAny (model X.prog X.w) X.A (do rule "assign.swapped-stores"; let items ← unpackItems (.ref s1.heap.objs.size) 2 none; assignInOrder [fun v => bindName X.env y v, fun v => bindName X.env x v] items.reverse; pure Flow.next) _ _ _
  refine wpAny_bind (wpAny_rule (wpAny_bind (unpackItems_tuple (items := #[u1, u2]) (I.ok.hd hc) (IsTup.new s1.heap _) fun h' hx' => ?_)))
  have I3 := I2.kept (h' := h') (t' := s1.toks) fun b o e => hx' b o (Nat.ne_of_lt (Heap.lt_size e)) e
  show wpAny _ _ (assignInOrder [fun v => bindName X.env y v, fun v => bindName X.env x v] [u2, u1] >>= fun _ => pure Flow.next) _ _ _
  refine wpAny_bind (assignInOrder_cons (wpAny_bindName (store_ok I3 hN hj (.inl hy) rw' (fun s2 I4 => ?_) (.inr hy))))
  refine assignInOrder_cons (wpAny_bindName (store_ok I4 hN hi (.inl hx) rv (fun s3 I5 => assignInOrder_nil (wpAny_pure ?_)) (.inr hx)))
  rw [List.set_comm _ _ (Ne.symm hij)] at I5
  exact ⟨_, H1, I5, q1⟩
end

/-! ### while -/
section
variable {X : Cx} {pos : Pos}
/-- the invariant W with its measure -/
def tWhile (c : TT) (tb : TS) : TS := fun D σ H => ∃ W : Nat → St → Hp → Prop, (∃ m, W m σ H) ∧ ∀ m σ H, W m σ H →
  c σ H fun b H1 => if b = true then ∃ N : St → Hp → Prop, (∀ σ' H', N σ' H' → ∃ m', m' < m ∧ W m' σ' H') ∧ tb { D with nx := N, ct := N, bk := D.nx } σ H1 else D.nx σ H1
theorem ps_while {c : Expr} {body : List Stmt} {tc : TT} {tb : TS} (hp : PassesOwn (model X.prog X.w) X.A X.env X.xe) (hc : PT X c tc) (hb : PSs X body tb) : PS X (.While c body [] pos) (tWhile tc tb) := by
  intro pins s σ H D I h
  obtain ⟨W, ⟨m0, w0⟩, turn⟩ := h
  refine wpAny_While (codeAny_whileLoop (fun n s' => ∃ σ' H', Inv X pins σ' H' s' ∧ W n σ' H') ?_ m0 ⟨σ, H, I, w0⟩)
  rintro n s1 ⟨σ1, H1, I1, w1⟩
  refine wpAny_passesOwn hp (thn (hc pins s1 σ1 H1 _ I1 (turn n σ1 H1 w1)) fun b s2 ⟨H2, I2, q2⟩ => ?_)
  cases b with
  | true =>
    obtain ⟨N, hN, q2⟩ := q2
    rw [if_pos rfl]
    refine wpAny_passesOwn hp (thn (hb pins s2 σ1 H2 _ I2 q2) fun f s3 q3 => ?_)
    cases f with
    | next =>
      obtain ⟨σ3, H3, I3, n3⟩ := q3
      obtain ⟨m', hm, w3⟩ := hN σ3 H3 n3
      exact ⟨m', hm, σ3, H3, I3, w3⟩
    | cont =>
      obtain ⟨σ3, H3, I3, n3⟩ := q3
      obtain ⟨m', hm, w3⟩ := hN σ3 H3 n3
      exact ⟨m', hm, σ3, H3, I3, w3⟩
    | brk => exact q3
    | ret v => exact q3
  | false =>
    rw [if_neg Bool.false_ne_true]
    exact wpAny_execs_nil ⟨σ1, H2, I2, q2⟩
end

/-! ### what a loop or a comprehension walks -/
/-- at turn i: it yields x (the heap may grow), or it stops -/
structure It where
  go : Nat → Hp → Prop
  yld : Nat → Hp → V → Hp → Prop
  stop : Nat → Hp → Prop
/-- the iterator's own objects may turn: they are not the frame's, not pinned, younger than the entry (or a comprehension's own) -/
def FpOk (X : Cx) (pins : List (Addr × Obj)) (H : Hp) (b : Addr) : Prop :=
  H b = none ∧ b ≠ X.env.locals ∧ b ∉ X.fs ∧ (b ∈ X.ex ∨ X.s₀.heap.objs.size ≤ b) ∧ (∀ x c, X.env.cells.lookup x = some c → c ≠ b) ∧ ∀ p ∈ X.pn ++ pins, p.1 ≠ b
theorem Inv.fpOk {X : Cx} {pins : List (Addr × Obj)} {σ : St} {H H' : Hp} {s : Shared} {b : Addr} (I : Inv X pins σ H s) (hb : s.heap.objs.size ≤ b) (hn : H' b = none) : FpOk X pins H' b := by
  refine ⟨hn, Nat.ne_of_gt (Nat.lt_of_lt_of_le I.lt hb), I.nofs hb, .inr (Nat.le_trans I.sz hb), fun x c e z => ?_, fun p hp z => ?_⟩
  · obtain ⟨v, q⟩ := I.cell x c e
    exact absurd (Nat.lt_of_lt_of_le q.lt (by rw [z]; exact hb)) (Nat.lt_irrefl _)
  · exact absurd (Nat.lt_of_lt_of_le (Heap.lt_size (I.pin p hp).1) (by rw [z]; exact hb)) (Nat.lt_irrefl _)
structure Turn (P : Program) (w : World) (K : PySem.W.Frag) (tg : Expr) (J : It) (fp : List Addr) (it : Addr) (tn : Nat → Heap → Prop) : Prop where
  mem : it ∈ fp
  obj : ∀ i h, tn i h → ∀ b ∈ fp, ∃ o, h.get? b = some o ∧ ∀ v, o.data ≠ .cell v
  keep : ∀ i h h', tn i h → (∀ b ∈ fp, ∀ o, h.get? b = some o → h'.get? b = some o) → tn i h'
  item : ∀ (X : Cx), X.prog = P → X.w = w → X.K = K → X.calm = true → ∀ (i : Nat) (pins : List (Addr × Obj)) (s : Shared) (σ : St) (H : Hp) (E : Value → Shared → Prop), Inv X pins σ H s → (∀ b ∈ fp, FpOk X pins H b) → tn i s.heap → J.go i H →
    wpAny (model P w) X.A (pyNext (.ref it)) (fun r s1 => ∃ u, r = some u ∧
      wpAny (model P w) X.A (letOwnedTupleGo tg (.ref it) u) (fun _ s2 => ∃ x H', Inv X pins σ H' s2 ∧ RelV x u ∧ J.yld i H x H' ∧ tn (i + 1) s2.heap ∧ ∀ b ∈ fp, H' b = none) E s1) E s
  done : ∀ (X : Cx), X.prog = P → X.w = w → X.K = K → X.calm = true → ∀ (i : Nat) (pins : List (Addr × Obj)) (s : Shared) (σ : St) (H : Hp) (E : Value → Shared → Prop), Inv X pins σ H s → (∀ b ∈ fp, FpOk X pins H b) → tn i s.heap → J.stop i H →
    wpAny (model P w) X.A (pyNext (.ref it)) (fun r s1 => r = none ∧ Inv X pins σ H s1) E s
  self : ∀ (A : Around) (i : Nat) (s : Shared) (Q : Value → Shared → Prop) (E : Value → Shared → Prop), tn i s.heap → Q (.ref it) s → wpAny (model P w) A (pyIter (.ref it)) Q E s
abbrev TI := St → Hp → (It → Hp → Prop) → Prop
/-- an iterator has come -/
def PIE (X : Cx) (pins : List (Addr × Obj)) (σ : St) (tg : Expr) (R : It → Hp → Prop) (itv : Value) (s2 : Shared) : Prop :=
  ∃ (it : Addr) (fp : List Addr) (tn : Nat → Heap → Prop) (J : It) (H' : Hp), itv = .ref it ∧ Inv X pins σ H' s2 ∧ Turn X.prog X.w X.K tg J fp it tn ∧ tn 0 s2.heap ∧ (∀ b ∈ fp, FpOk X pins H' b) ∧ R J H'
def PI (X : Cx) (tg iter : Expr) (wi : TI) : Prop :=
  ∀ (pins : List (Addr × Obj)) (s : Shared) (σ : St) (H : Hp) (R : It → Hp → Prop), Inv X pins σ H s → wi σ H R →
    wpAny (model X.prog X.w) X.A (eval iter X.env) (fun v s1 => wpAny (model X.prog X.w) X.A (pyIter v) (PIE X pins σ tg R) X.xe s1) X.xe s

/-- the step ahead of the store is nothing for an iterator that keeps no tuple -/
theorem go_of {M : Model} {A : Around} {E : Value → Shared → Prop} {s : Shared} {tg : Expr} {it : Addr} {u : Value} {o : Obj} {n : String} {vs : Array Value} {Q : Unit → Shared → Prop} (ho : s.heap.get? it = some o) (hc : o.cls = .type n) (hd : o.data = .fields vs)
    (hn : ["enumerate", "zip", "dict_itemiterator", "dict_reverseitemiterator", "odict_iterator", "itertools.zip_longest", "itertools.pairwise"].contains n = false) (hQ : Q () s) : wpAny M A (letOwnedTupleGo tg (.ref it) u) Q E s := by
  unfold letOwnedTupleGo
  cases tg <;> first
    | exact wpAny_pure hQ
    | (cases u <;> first
        | exact wpAny_pure hQ
        | (refine wpAny_bind (wpAny_load ho ?_)
           rw [hc, hd]
           show wpAny M A (if (["enumerate", "zip", "dict_itemiterator", "dict_reverseitemiterator", "odict_iterator", "itertools.zip_longest", "itertools.pairwise"].contains n && vs[0]? == some (rawInt _)) = true then _ else _) Q E s
           rw [if_neg (by intro h; rw [hn, Bool.false_and] at h; cases h)]
           exact wpAny_pure hQ))

/-- the list at a, as it stands at each turn (a loop may append to it) -/
def Itl (K : PySem.W.Frag) (a : Addr) : It :=
  ⟨fun i H => ∃ xs x, SqL K H a xs ∧ xs[i]? = some x, fun i H x H' => H' = H ∧ ∀ xs, SqL K H a xs → xs[i]? = some x, fun i H => ∃ xs, SqL K H a xs ∧ xs.length ≤ i⟩
def Itt (K : PySem.W.Frag) (a : Addr) : It :=
  ⟨fun i H => ∃ xs x, SqT K H a xs ∧ xs[i]? = some x, fun i H x H' => H' = H ∧ ∀ xs, SqT K H a xs → xs[i]? = some x, fun i H => ∃ xs, SqT K H a xs ∧ xs.length ≤ i⟩
/-- lo, lo + 1, .. (n of them) -/
def Itr (lo : Int) (n : Nat) : It := ⟨fun i _ => i < n, fun i H x H' => H' = H ∧ x = .int (lo + i), fun i _ => n ≤ i⟩
theorem turn_list {P : Program} {w : World} {K : PySem.W.Frag} {tg : Expr} (a it : Addr) : Turn P w K tg (Itl K a) [it] it (fun i h => h.IsListIter it a i) where
  mem := by simp
  obj := fun i h st b hb => by
    have e : b = it := by simpa using hb
    subst e
    obtain ⟨o, e, c, d⟩ := st
    exact ⟨o, e, fun v z => by rw [d] at z; cases z⟩
  keep := fun i h h' st k => st.at fun o e => k it (by simp) o e
  item := by
    intro X hP hw hK hc i pins s σ H E I hf st hg
    subst hP hw hK
    obtain ⟨xs, x, hq, hx⟩ := hg
    obtain ⟨its, rv, p, hz⟩ := I.list hq
    obtain ⟨u, hu, ru⟩ := rv.get hx
    obtain ⟨f0, f1, f2, f3, f4, f5⟩ := hf it (by simp)
    refine wpAny_pyNext_list_item st p.isList (x := u) (by simpa using hu) fun h' st' sb => ?_
    have I1 : Inv X pins σ H { s with heap := h' } := I.turned (t' := s.toks) (fun b o hb e => (sb.2 b hb).trans e) f0 f1 f3 f4 f5
    obtain ⟨o, e, c, d⟩ := id st'
    exact ⟨u, rfl, go_of (s := { s with heap := h' }) e c d (by decide) ⟨x, H, I1, ru, ⟨rfl, fun ys hy => by rw [I.list_inj hy hq]; exact hx⟩, st', fun b hb => (hf b hb).1⟩⟩
  done := by
    intro X hP hw hK hc i pins s σ H E I hf st hg
    subst hP hw hK
    obtain ⟨xs, hq, hx⟩ := hg
    obtain ⟨its, rv, p, hz⟩ := I.list hq
    obtain ⟨f0, f1, f2, f3, f4, f5⟩ := hf it (by simp)
    have hl := rv.length
    exact wpAny_pyNext_list_end (I.ok.hd hc) st p.isList (by simp; omega) fun h' eb => ⟨rfl, I.turned (t' := s.toks) (fun b o hb e => eb b o hb e) f0 f1 f3 f4 f5⟩
  self := fun _ _ _ _ _ st h => wpAny_pyIter_listiter st h
theorem turn_tuple {P : Program} {w : World} {K : PySem.W.Frag} {tg : Expr} (a it : Addr) : Turn P w K tg (Itt K a) [it] it (fun i h => h.IsTupleIter it a i) where
  mem := by simp
  obj := fun i h st b hb => by
    have e : b = it := by simpa using hb
    subst e
    obtain ⟨o, e, c, d⟩ := st
    exact ⟨o, e, fun v z => by rw [d] at z; cases z⟩
  keep := fun i h h' st k => st.at fun o e => k it (by simp) o e
  item := by
    intro X hP hw hK hc i pins s σ H E I hf st hg
    subst hP hw hK
    obtain ⟨xs, x, hq, hx⟩ := hg
    obtain ⟨its, rv, p, hz⟩ := I.tuple hq
    obtain ⟨u, hu, ru⟩ := rv.get hx
    obtain ⟨f0, f1, f2, f3, f4, f5⟩ := hf it (by simp)
    refine wpAny_pyNext_tuple_item st (show s.heap.IsTuple a its.toArray from p) (x := u) (by simpa using hu) fun h' st' sb => ?_
    have I1 : Inv X pins σ H { s with heap := h' } := I.turned (t' := s.toks) (fun b o hb e => (sb.2 b hb).trans e) f0 f1 f3 f4 f5
    obtain ⟨o, e, c, d⟩ := id st'
    exact ⟨u, rfl, go_of (s := { s with heap := h' }) e c d (by decide) ⟨x, H, I1, ru, ⟨rfl, fun ys hy => by rw [I.tuple_inj hy hq]; exact hx⟩, st', fun b hb => (hf b hb).1⟩⟩
  done := by
    intro X hP hw hK hc i pins s σ H E I hf st hg
    subst hP hw hK
    obtain ⟨xs, hq, hx⟩ := hg
    obtain ⟨its, rv, p, hz⟩ := I.tuple hq
    obtain ⟨f0, f1, f2, f3, f4, f5⟩ := hf it (by simp)
    have hl := rv.length
    exact wpAny_pyNext_tuple_end (I.ok.hd hc) st (show s.heap.IsTuple a its.toArray from p) (by simp; omega) fun h' eb => ⟨rfl, I.turned (t' := s.toks) (fun b o hb e => eb b o hb e) f0 f1 f3 f4 f5⟩
  self := fun _ _ _ _ _ st h => wpAny_pyIter_tupleiter st h
theorem turn_range {P : Program} {w : World} {K : PySem.W.Frag} {tg : Expr} (it : Addr) (lo : Int) (n : Nat) : Turn P w K tg (Itr lo n) [it] it (fun i h => IsRangeIter h it (lo + (i : Nat) * 1) ((n : Int) - (i : Nat)) 1) where
  mem := by simp
  obj := fun i h st b hb => by
    have e : b = it := by simpa using hb
    subst e
    exact ⟨_, st, fun v z => by
      have z' : Data.fields _ = Data.cell v := z
      cases z'⟩
  keep := fun i h h' st k => k it (by simp) _ st
  item := by
    intro X hP hw hK hc i pins s σ H E I hf st hg
    subst hP hw hK
    obtain ⟨f0, f1, f2, f3, f4, f5⟩ := hf it (by simp)
    have W := Walks.range (prog := X.prog) (w := X.w) (I.ok.hd hc) it lo 1 n
    refine W.item i s _ _ hg st fun v h' tk hv st' kk => ?_
    obtain ⟨t, rfl⟩ := hv
    have I1 : Inv X pins σ H { s with heap := h', toks := tk } := I.turned (fun b o hb e => kk b o (by simpa using hb) e) f0 f1 f3 f4 f5
    refine ⟨_, rfl, go_of (s := { s with heap := h', toks := tk }) (n := "range_iterator") st' rfl rfl (by decide) ⟨.int (lo + i), H, I1, ⟨t, ?_⟩, ⟨rfl, rfl⟩, st', fun b hb => (hf b hb).1⟩⟩
    rw [Int.mul_one]
  done := by
    intro X hP hw hK hc i pins s σ H E I hf st hg
    subst hP hw hK
    obtain ⟨f0, f1, f2, f3, f4, f5⟩ := hf it (by simp)
    exact wpAny_pyNext_range_end (I.ok.hd hc) st (by have : n ≤ i := hg; omega) fun h' eb => ⟨rfl, I.turned (t' := s.toks) (fun b o hb e => eb b o hb e) f0 f1 f3 f4 f5⟩
  self := fun _ _ _ _ _ st h => wpAny_pyIter_rangeiter st h
end L2

namespace L2
open PySem PySem.Spec PyProof.Rows
section
variable {X : Cx} {tg : Expr}
def iList (K : PySem.W.Frag) (tl : TE) : TI := fun σ H R => tl σ H fun x H1 => ∃ a, x = .ref a ∧ (∃ xs, SqL K H1 a xs) ∧ R (Itl K a) H1
def iTup (K : PySem.W.Frag) (tl : TE) : TI := fun σ H R => tl σ H fun x H1 => ∃ a, x = .ref a ∧ (∃ xs, SqT K H1 a xs) ∧ R (Itt K a) H1
theorem pi_list {l : Expr} {tl : TE} (hl : PE X l tl) : PI X tg l (iList X.K tl) := by
  intro pins s σ H R I h
  refine thn (hl pins s σ H _ I h) fun v s1 ⟨x, H1, I1, r1, q1⟩ => ?_
  obtain ⟨a, e, ⟨xs, hq⟩, q⟩ := q1
  subst e
  cases r1
  obtain ⟨its, rv, p, hz⟩ := I1.list hq
  refine wpAny_pyIter_list p.isList ?_
  refine ⟨s1.heap.objs.size, [s1.heap.objs.size], _, _, H1, rfl, I1.kept (t' := s1.toks) fun b o e => Heap.get?_push_of_some _ e, turn_list a _, ⟨_, Heap.get?_push_size _ rfl, rfl, rfl⟩, fun b hb => ?_, q⟩
  have e : b = s1.heap.objs.size := by simpa using hb
  subst e
  exact I1.fpOk (Nat.le_refl _) (I1.hok.fresh (Nat.le_refl _))
theorem pi_tup {l : Expr} {tl : TE} (hl : PE X l tl) : PI X tg l (iTup X.K tl) := by
  intro pins s σ H R I h
  refine thn (hl pins s σ H _ I h) fun v s1 ⟨x, H1, I1, r1, q1⟩ => ?_
  obtain ⟨a, e, ⟨xs, hq⟩, q⟩ := q1
  subst e
  cases r1
  obtain ⟨its, rv, p, hz⟩ := I1.tuple hq
  refine wpAny_pyIter_tuple (show s1.heap.IsTuple a its.toArray from p) ?_
  refine ⟨s1.heap.objs.size, [s1.heap.objs.size], _, _, H1, rfl, I1.kept (t' := s1.toks) fun b o e => Heap.get?_push_of_some _ e, turn_tuple a _, ⟨_, Heap.get?_push_size _ rfl, rfl, rfl⟩, fun b hb => ?_, q⟩
  have e : b = s1.heap.objs.size := by simpa using hb
  subst e
  exact I1.fpOk (Nat.le_refl _) (I1.hok.fresh (Nat.le_refl _))
/-! ### for -/
/-- W: the invariant by the turn and a measure; N: what the body is to reach -/
def tFor (wi : TI) (g : TG) (tb : TS) : TS := fun D σ H => wi σ H fun J H1 => ∃ W : Nat → Nat → St → Hp → Prop, (∃ m, W 0 m σ H1) ∧ ∀ i m σ H, W i m σ H →
  (J.stop i H ∧ D.nx σ H) ∨ (J.go i H ∧ ∃ N : St → Hp → Prop, (∀ σ' H', N σ' H' → ∃ m', m' < m ∧ W (i + 1) m' σ' H') ∧ ∀ x H', J.yld i H x H' → g x σ H' fun σ2 H2 => tb { D with nx := N, ct := N, bk := D.nx } σ2 H2)
/-- the records at fp as they stand -/
def pinsAt (fp : List Addr) (h : Heap) : List (Addr × Obj) := fp.filterMap fun b => (h.get? b).map fun o => (b, o)
theorem mem_pinsAt {fp : List Addr} {h : Heap} {b : Addr} {o : Obj} (hb : b ∈ fp) (e : h.get? b = some o) : (b, o) ∈ pinsAt fp h := List.mem_filterMap.mpr ⟨b, hb, by rw [e]; rfl⟩
theorem of_pinsAt {fp : List Addr} {h : Heap} {p : Addr × Obj} (hp : p ∈ pinsAt fp h) : p.1 ∈ fp ∧ h.get? p.1 = some p.2 := by
  obtain ⟨b, hb, e⟩ := List.mem_filterMap.mp hp
  cases q : h.get? b with
  | none => rw [q] at e; cases e
  | some o =>
    rw [q] at e
    have e' : (b, o) = p := Option.some.inj e
    subst e'
    exact ⟨hb, q⟩
theorem Inv.pinned {pins : List (Addr × Obj)} {σ : St} {H : Hp} {s : Shared} {fp : List Addr} (I : Inv X pins σ H s) (hf : ∀ b ∈ fp, FpOk X pins H b) (ho : ∀ b ∈ fp, ∃ o, s.heap.get? b = some o ∧ ∀ v, o.data ≠ .cell v) : Inv X (pins ++ pinsAt fp s.heap) σ H s :=
  I.pins_of fun p hp => (List.mem_append.mp hp).elim (fun z => I.pin p (List.mem_append_right _ z)) fun z => by
    obtain ⟨hb, e⟩ := of_pinsAt z
    obtain ⟨f0, f1, f2, _⟩ := hf p.1 hb
    obtain ⟨o, e', d⟩ := ho p.1 hb
    rw [e] at e'; cases e'
    exact ⟨e, f0, f1, f2, d⟩
theorem Inv.unpinned {pins pl : List (Addr × Obj)} {σ : St} {H : Hp} {s : Shared} (I : Inv X (pins ++ pl) σ H s) : Inv X pins σ H s := I.pins_of fun p hp => I.pin p (List.mem_append_right _ (List.mem_append_left _ hp))
theorem ps_for {iter : Expr} {body : List Stmt} {wi : TI} {g : TG} {tb : TS} {pos : Pos} (hp : PassesOwn (model X.prog X.w) X.A X.env X.xe) (hc : X.calm = true) (hi : PI X tg iter wi) (hg : PG X tg g) (hb : PSs X body tb)
    (hs : ∀ x, foldedSetIterable iter X.env x = pure x := by intro _; rfl) : PS X (.For tg iter body [] pos) (tFor wi g tb) := by
  intro pins s σ H D I h
  refine wpAny_For (thn (hi pins s σ H _ I h) fun v s1 h1 => thn h1 fun itv s2 h2 => ?_) hs
  obtain ⟨it, fp, tn, J, H2, e, I2, T, st2, f2, W, ⟨m0, w0⟩, turn⟩ := h2
  subst e
  -- what stays true of the iterator's objects through the loop
  have stat : ∀ {H' : Hp}, (∀ b ∈ fp, H' b = none) → ∀ b ∈ fp, FpOk X pins H' b := fun hn b hb => ⟨hn b hb, (f2 b hb).2⟩
  refine codeAny_forLoop_any (fun n s' => ∃ i σ' H', Inv X pins σ' H' s' ∧ tn i s'.heap ∧ (∀ b ∈ fp, H' b = none) ∧ W i n σ' H') ?_ m0 ⟨0, σ, H2, I2, st2, fun b hb => (f2 b hb).1, w0⟩
  rintro n s3 ⟨i, σ3, H3, I3, st3, fr3, w3⟩
  rcases turn i n σ3 H3 w3 with ⟨stop, qn⟩ | ⟨go, N, hN, step⟩
  · refine wpAny_passesOwn hp (thn (T.done X rfl rfl rfl hc i pins s3 σ3 H3 X.xe I3 (stat fr3) st3 stop) fun r s4 ⟨hr, I4⟩ => ?_)
    subst hr
    exact wpAny_execs_nil ⟨σ3, H3, I4, qn⟩
  · refine wpAny_passesOwn hp (thn (T.item X rfl rfl rfl hc i pins s3 σ3 H3 X.xe I3 (stat fr3) st3 go) fun r s4 ⟨u, hr, h4⟩ => ?_)
    subst hr
    refine wpAny_passesOwn hp (thn h4 fun _ s5 ⟨x, H5, I5, r5, y5, st5, fr5⟩ => ?_)
    have I5' := I5.pinned (stat fr5) (T.obj _ _ st5)
    refine wpAny_passesOwn hp (thn (hg _ s5 σ3 H5 x u _ I5' r5 (step x H5 y5)) fun _ s6 ⟨σ6, H6, I6, q6⟩ => ?_)
    refine wpAny_passesOwn hp (thn (hb _ s6 σ6 H6 _ I6 q6) fun f s7 q7 => ?_)
    have again : ∀ {σ7 : St} {H7 : Hp}, Inv X (pins ++ pinsAt fp s5.heap) σ7 H7 s7 → N σ7 H7 → ∃ m, m < n ∧ ∃ i σ' H', Inv X pins σ' H' s7 ∧ tn i s7.heap ∧ (∀ b ∈ fp, H' b = none) ∧ W i m σ' H' := fun {σ7 H7} I7 n7 => by
      obtain ⟨m', hm, w7⟩ := hN σ7 H7 n7
      refine ⟨m', hm, i + 1, σ7, H7, I7.unpinned, T.keep _ _ _ st5 fun b hb o e => (I7.pin (b, o) (List.mem_append_right _ (List.mem_append_right _ (mem_pinsAt hb e)))).1, fun b hb => ?_, w7⟩
      obtain ⟨o, e, d⟩ := T.obj _ _ st5 b hb
      exact (I7.pin (b, o) (List.mem_append_right _ (List.mem_append_right _ (mem_pinsAt hb e)))).2.1
    cases f with
    | next => obtain ⟨σ7, H7, I7, n7⟩ := q7; exact again I7 n7
    | cont => obtain ⟨σ7, H7, I7, n7⟩ := q7; exact again I7 n7
    | brk => obtain ⟨σ7, H7, I7, q7⟩ := q7; exact ⟨σ7, H7, I7.unpinned, q7⟩
    | ret v => obtain ⟨x7, σ7, H7, I7, r7, q7⟩ := q7; exact ⟨x7, σ7, H7, I7.unpinned, r7, q7⟩
end

/-! ### the forms one uses -/
end L2

namespace L2
open PySem PySem.Spec PyProof.Rows

abbrev R2 := V → V → Hp → VK → Prop
/-- a two-place operation on values: f is binaryOp op, inplaceOp op or compareOp op -/
def OpR (X : Cx) (f : Value → Value → Sem Value) (r : R2) : Prop :=
  ∀ (pins : List (Addr × Obj)) (s : Shared) (σ : St) (H : Hp) (x y : V) (v u : Value) (Q : VK), Inv X pins σ H s → RelV x v → RelV y u → r x y H Q →
    wpAny (model X.prog X.w) X.A (f v u) (EP X pins σ Q) X.xe s
/-- a one-place operation -/
def UnR (X : Cx) (f : Value → Sem Value) (r : V → Hp → VK → Prop) : Prop :=
  ∀ (pins : List (Addr × Obj)) (s : Shared) (σ : St) (H : Hp) (x : V) (v : Value) (Q : VK), Inv X pins σ H s → RelV x v → r x H Q →
    wpAny (model X.prog X.w) X.A (f v) (EP X pins σ Q) X.xe s
/-- a call of a value that is known (a builtin, a type) with values -/
def CallR (X : Cx) (f : Value) (r : List V → Hp → VK → Prop) : Prop :=
  ∀ (pins : List (Addr × Obj)) (s : Shared) (σ : St) (H : Hp) (xs : List V) (us : List Value) (Q : VK), Inv X pins σ H s → Vals xs us → r xs H Q →
    wpAny (model X.prog X.w) X.A (call f us) (EP X pins σ Q) X.xe s
def tOp (r : R2) (ta tb : TE) : TE := fun σ H Q => ta σ H fun x H1 => tb σ H1 fun y H2 => r x y H2 Q
def tUn (r : V → Hp → VK → Prop) (ta : TE) : TE := fun σ H Q => ta σ H fun x H1 => r x H1 Q
/-- ints in, under C, and a value out -/
def rI (C : Int → Int → Prop) (g : Int → Int → V) : R2 := fun x y H Q => ∃ i j, x = .int i ∧ y = .int j ∧ C i j ∧ Q (g i j) H
def rI0 (g : Int → Int → V) : R2 := fun x y H Q => ∃ i j, x = .int i ∧ y = .int j ∧ Q (g i j) H
def rU (g : Int → V) : V → Hp → VK → Prop := fun x H Q => ∃ i, x = .int i ∧ Q (g i) H

section
variable {X : Cx} {a b c : Expr} {ta tb tc : TE} {pos : Pos}

theorem binT (ha : PE X a ta) (hb : PE X b tb) {pins : List (Addr × Obj)} {s : Shared} {σ : St} {H : Hp} {R : V → V → Hp → Prop} (I : Inv X pins σ H s)
    (h : ta σ H fun x H1 => tb σ H1 fun y H2 => R x y H2) {Q : Value → Shared → Prop} {f : Value → Value → Sem Value}
    (hf : ∀ v u s2 x y H2, Inv X pins σ H2 s2 → RelV x v → RelV y u → R x y H2 → wpAny (model X.prog X.w) X.A (f v u) Q X.xe s2) :
    wpAny (model X.prog X.w) X.A (eval a X.env) (fun v s₁ => wpAny (model X.prog X.w) X.A (eval b X.env) (fun u s₂ => wpAny (model X.prog X.w) X.A (f v u) Q X.xe s₂) X.xe s₁) X.xe s := by
  refine thn (ha pins s σ H _ I h) fun v s1 ⟨x, H1, I1, r1, q1⟩ => ?_
  refine thn (hb pins s1 σ H1 _ I1 q1) fun u s2 ⟨y, H2, I2, r2, q2⟩ => ?_
  exact hf v u s2 x y H2 I2 r1 r2 q2

theorem pe_op {op : Operator} {r : R2} (ho : OpR X (binaryOp op) r) (ha : PE X a ta) (hb : PE X b tb) : PE X (.BinOp a op b pos) (tOp r ta tb) := by
  intro pins s σ H Q I h
  exact wpAny_BinOp (binT ha hb I h fun v u s2 x y H2 I2 rx ry q => ho pins s2 σ H2 x y v u Q I2 rx ry q)
theorem pe_un {op : UnaryOp} {r : V → Hp → VK → Prop} (ho : UnR X (unaryOp op) r) (ha : PE X a ta) : PE X (.UnaryOp op a pos) (tUn r ta) := by
  intro pins s σ H Q I h
  exact UnaryOp_ (thn (ha pins s σ H _ I h) fun v s1 ⟨x, H1, I1, r1, q1⟩ => ho pins s1 σ H1 x v Q I1 r1 q1)
/-! ### ints -/
theorem opI {f : Value → Value → Sem Value} {C : Int → Int → Prop} {g : Int → Int → Int}
    (rule : ∀ (i j : Int) (t u : Tok) (s : Shared) (Q : Value → Shared → Prop) (E : Value → Shared → Prop), C i j → Q (.int (g i j) s.toks) { s with toks := s.toks + 1 } → wpAny (model X.prog X.w) X.A (f (.int i t) (.int j u)) Q E s) :
    OpR X f (rI C fun i j => .int (g i j)) := by
  intro pins s σ H x y v u Q I rx ry h
  obtain ⟨i, j, rfl, rfl, hc, q⟩ := h
  obtain ⟨t, rfl⟩ := rx
  obtain ⟨t', rfl⟩ := ry
  exact rule i j t t' s _ _ hc ⟨.int (g i j), H, I.tok _, ⟨_, rfl⟩, q⟩
theorem opI0 {f : Value → Value → Sem Value} {g : Int → Int → Int}
    (rule : ∀ (i j : Int) (t u : Tok) (s : Shared) (Q : Value → Shared → Prop) (E : Value → Shared → Prop), Q (.int (g i j) s.toks) { s with toks := s.toks + 1 } → wpAny (model X.prog X.w) X.A (f (.int i t) (.int j u)) Q E s) :
    OpR X f (rI0 fun i j => .int (g i j)) := by
  intro pins s σ H x y v u Q I rx ry h
  obtain ⟨i, j, rfl, rfl, q⟩ := h
  obtain ⟨t, rfl⟩ := rx
  obtain ⟨t', rfl⟩ := ry
  exact rule i j t t' s _ _ ⟨.int (g i j), H, I.tok _, ⟨_, rfl⟩, q⟩
theorem opB0 {f : Value → Value → Sem Value} {g : Int → Int → Bool}
    (rule : ∀ (i j : Int) (t u : Tok) (s : Shared) (Q : Value → Shared → Prop) (E : Value → Shared → Prop), Q (.bool (g i j)) s → wpAny (model X.prog X.w) X.A (f (.int i t) (.int j u)) Q E s) :
    OpR X f (rI0 fun i j => .bl (g i j)) := by
  intro pins s σ H x y v u Q I rx ry h
  obtain ⟨i, j, rfl, rfl, q⟩ := h
  obtain ⟨t, rfl⟩ := rx
  obtain ⟨t', rfl⟩ := ry
  exact rule i j t t' s _ _ ⟨.bl (g i j), H, I, rfl, q⟩

def CDiv (i j : Int) : Prop := 0 < j ∧ j < 1073741824
def CPow (i j : Int) : Prop := 0 ≤ j ∧ j ≤ 1000000 ∧ i.natAbs < 2 ^ 64
def CMul (i j : Int) : Prop := (-(2 ^ 64) < i ∧ i < 2 ^ 64) ∨ (-(2 ^ 64) < j ∧ j < 2 ^ 64)
theorem CMul.ok {i j : Int} (h : CMul i j) : IntMulOk i j := by
  rcases h with ⟨h1, h2⟩ | ⟨h1, h2⟩
  · exact .of_left (intBits_le_64 h1 h2)
  · exact .of_right (intBits_le_64 h1 h2)
theorem op_add : OpR X (binaryOp .Add) (rI0 fun i j => .int (i + j)) := opI0 fun _ _ _ _ _ _ _ q => add_int q
theorem op_sub : OpR X (binaryOp .Sub) (rI0 fun i j => .int (i - j)) := opI0 fun _ _ _ _ _ _ _ q => sub_int q
/-- % by a positive divisor of any size -/
theorem op_mod : OpR X (binaryOp .Mod) (rI (fun _ j => 0 < j) fun i j => .int (i % j)) := opI fun i j _ _ _ _ _ hc q => by
  have h1 : (0 : Int) < j := hc
  exact mod_int' (by omega) (by rw [Int.fmod_eq_emod_of_nonneg i (by omega)]; exact q)
theorem op_modN : OpR X (binaryOp .Mod) (rI (fun _ j => j ≠ 0) fun i j => .int (i.fmod j)) := opI fun _ _ _ _ _ _ _ hc q => mod_int' hc q
theorem op_pow : OpR X (binaryOp .Pow) (rI CPow fun i j => .int (i ^ j.toNat)) := opI fun _ _ _ _ _ _ _ hc q => pow_int_small hc.1 hc.2.1 hc.2.2 q
theorem unI {f : Value → Sem Value} {g : Int → Int}
    (rule : ∀ (i : Int) (t : Tok) (s : Shared) (Q : Value → Shared → Prop) (E : Value → Shared → Prop), Q (.int (g i) s.toks) { s with toks := s.toks + 1 } → wpAny (model X.prog X.w) X.A (f (.int i t)) Q E s) :
    UnR X f (rU fun i => .int (g i)) := by
  intro pins s σ H x v Q I rx h
  obtain ⟨i, rfl, q⟩ := h
  obtain ⟨t, rfl⟩ := rx
  exact rule i t s _ _ ⟨.int (g i), H, I.tok _, ⟨_, rfl⟩, q⟩
theorem un_neg : UnR X (unaryOp .USub) (rU fun i => .int (-i)) := unI fun _ _ _ _ _ q => neg_int q
/-! ### bools among ints: n += (a < b) -/
end

/-! ### comparisons -/
section
variable {X : Cx} {a b c : Expr} {ta tb tc : TE} {pos : Pos}
theorem fin_bl {pins : List (Addr × Obj)} {σ : St} {H : Hp} {s : Shared} {Q : VK} {k k' : Bool} (I : Inv X pins σ H s) (q : Q (.bl k) H) (e : k = k') : EP X pins σ Q (.bool k') s := by
  subst e
  exact ⟨.bl k, H, I, rfl, q⟩
theorem op_lt : OpR X (compareOp .Lt) (rI0 fun i j => .bl (decide (i < j))) := opB0 fun _ _ _ _ _ _ _ q => lt_int q
theorem op_ge : OpR X (compareOp .GtE) (rI0 fun i j => .bl (decide (j ≤ i))) := opB0 fun _ _ _ _ _ _ _ q => ge_int q
theorem op_notN : OpR X (compareOp .IsNot) (fun x y H Q => y = .non ∧ Q (.bl (!decide (x = .non))) H) := by
  intro pins s σ H x y v u Q I rx ry h
  obtain ⟨rfl, q⟩ := h
  cases ry
  refine isnot_none_gen (fin_bl I q ?_)
  cases x <;> first
    | (cases rx; rfl)
    | (obtain ⟨t, rfl⟩ := rx; rfl)

/-- two rules for one operation: by cases -/
theorem OpR.or {f : Value → Value → Sem Value} {r r' : R2} (h : OpR X f r) (h' : OpR X f r') : OpR X f (fun x y H Q => r x y H Q ∨ r' x y H Q) := by
  intro pins s σ H x y v u Q I rx ry q
  rcases q with q | q
  · exact h pins s σ H x y v u Q I rx ry q
  · exact h' pins s σ H x y v u Q I rx ry q

theorem nomark (b : Expr) {op : CmpOp} (h : op ≠ .In := by decide) (h2 : op ≠ .NotIn := by decide) : behindInMarks op b = false := by
  have e1 : (op == CmpOp.In) = false := by cases op <;> first | rfl | exact absurd rfl h
  have e2 : (op == CmpOp.NotIn) = false := by cases op <;> first | rfl | exact absurd rfl h2
  cases b <;> simp [behindInMarks, e1, e2]
/-- a comparison as a value; hm: nomark b, or (for in, not in) by with_unfolding_all rfl -/
theorem pe_cmpR {op : CmpOp} {r : R2} (ho : OpR X (compareOp op) r) (ha : PE X a ta) (hb : PE X b tb) (hm : behindInMarks op b = false) : PE X (.Compare a [op] [b] pos) (tOp r ta tb) := by
  intro pins s σ H Q I h
  exact wpAny_Compare1 (binT ha hb I h fun v u s2 x y H2 I2 rx ry q => ho pins s2 σ H2 x y v u Q I2 rx ry q) hm
/-- a reading of a value as a test -/
def tTest (t : TE) : TT := fun σ H Q => t σ H fun x H' => ∃ k, x = .bl k ∧ Q k H'
theorem pt_cmpR {op : CmpOp} {r : R2} (ho : OpR X (compareOp op) r) (ha : PE X a ta) (hb : PE X b tb) (hm : behindInMarks op b = false) : PT X (.Compare a [op] [b] pos) (tTest (tOp r ta tb)) := by
  intro pins s σ H Q I h
  refine wpAny_isTrue_Compare1 (thn (ha pins s σ H _ I h) fun v s1 ⟨x, H1, I1, r1, q1⟩ => thn (hb pins s1 σ H1 _ I1 q1) fun u s2 ⟨y, H2, I2, r2, q2⟩ =>
    thn (ho pins s2 σ H2 x y v u _ I2 r1 r2 q2) fun c s3 ⟨z, H3, I3, r3, k, e, q3⟩ => ?_) hm
  subst e
  cases r3
  exact wpAny_truthy_bool ⟨H3, I3, q3⟩
/-! ### truth -/
theorem line63 : (sizeLine : Nat) < 2 ^ 63 := by rw [sizeLine_eq]; decide
/-! ### strs and bytes -/
theorem op_add_str : OpR X (binaryOp .Add) (fun x y H Q => ∃ i j, x = .str i ∧ y = .str j ∧ i.length + j.length ≤ sizeLine ∧ Q (.str (i ++ j)) H) := by
  intro pins s σ H x y v u Q I rx ry h
  obtain ⟨i, j, rfl, rfl, hz, q⟩ := h
  obtain ⟨t, rfl⟩ := rx
  obtain ⟨t', rfl⟩ := ry
  exact add_str (fun t' tk => ⟨.str (i ++ j), H, I.tok _, ⟨_, rfl⟩, q⟩) hz
/-! ### scalar builtins, by CallR -/
theorem vals1 {x : V} {us : List Value} (r : Vals [x] us) : ∃ u, us = [u] ∧ RelV x u := by
  cases r with
  | cons r1 r2 => cases r2; exact ⟨_, rfl, r1⟩
theorem vals2 {x y : V} {us : List Value} (r : Vals [x, y] us) : ∃ u w', us = [u, w'] ∧ RelV x u ∧ RelV y w' := by
  cases r with
  | cons r1 r2 =>
    cases r2 with
    | cons r3 r4 => cases r4; exact ⟨_, _, rfl, r1, r3⟩
theorem call_abs : CallR X (.builtin "abs") (fun xs H Q => ∃ i, xs = [.int i] ∧ Q (.int (if i < 0 then -i else i)) H) := by
  intro pins s σ H xs us Q I r h
  obtain ⟨i, rfl, q⟩ := h
  obtain ⟨u, rfl, t, rfl⟩ := vals1 r
  exact call_abs_int fun u tk => ⟨.int (if i < 0 then -i else i), H, I.tok _, ⟨_, rfl⟩, q⟩
end
end L2

namespace L2
open PySem PySem.Spec PyProof.Rows

/-! ### an instance, its attributes a map -/
structure ObjM (h : Heap) (x dx C : Addr) (mA : Str → Option Value) : Prop where
  obj : h.get? x = some (PySem.W.instObj C dx)
  ns : h.Ns1 dx mA
  ne : dx ≠ x

theorem lookIn_ns {h : Heap} {dx : Addr} {mA : Str → Option Value} (n : h.Ns1 dx mA) : ∃ od, h.get? dx = some od ∧ ∀ name, PySem.W.lookIn name od = some (mA name) := by
  obtain ⟨o, es, ep, ho, hd, hk, _, hm⟩ := n
  refine ⟨o, ho, fun name => ?_⟩
  have e := hm name
  unfold nsFind findBy at e
  rw [← Array.find?_toList] at e
  unfold PySem.W.lookIn
  rw [hd]
  dsimp only
  split
  · rename_i y q
    rw [q] at e
    exact congrArg some e
  · rename_i q
    rw [q] at e
    have a : es.toList.any (·.refKey) = false := by
      rw [List.any_eq_false]
      intro y hy
      obtain ⟨z, t, hkey⟩ := hk y (Array.mem_toList_iff.mp hy)
      simp [DictEntry.refKey, hkey]
    have a' : ¬ es.toList.any (·.refKey) = true := by rw [a]; exact Bool.false_ne_true
    rw [if_neg a']
    exact congrArg some e

theorem ObjM.look {h : Heap} {x dx C : Addr} {mA : Str → Option Value} (I : ObjM h x dx C mA) : ∃ od, PySem.W.InstAt h x (PySem.W.instObj C dx) C (some od) ∧ ∀ name, PySem.W.lookIn name od = some (mA name) :=
  let ⟨od, ho, hl⟩ := lookIn_ns I.ns
  ⟨od, ⟨I.obj, rfl, rfl, ho⟩, hl⟩

section
variable {prog : Program} {w : World} {A : Around} {E : Value → Shared → Prop} {s : Shared} {K : PySem.W.Frag} {x dx C f : Addr} {mA : Str → Option Value} {name : Str} {v : Value}

end

/-! ### the attributes as a list of pairs -/
def putF (f : Str) (v : V) : List (Str × V) → List (Str × V)
  | [] => [(f, v)]
  | (g, x) :: r => if g = f then (g, v) :: r else (g, x) :: putF f v r
theorem RelO.none_of {o : Option Value} (r : RelO none o) : o = none := by
  cases o with
  | none => rfl
  | some u => exact (show False from r).elim
section
variable {P : Program} {w : World} {H H' : Hp} {h h' : Heap} {a C dx : Addr} {fs fs' : List (Str × V)}
theorem ins_get (hok : HOk P w H h) (e : H a = some (.ins C dx fs)) : ∃ mA, ObjM h a dx C mA ∧ (∀ f, RelO (fs.lookup f) (mA f)) ∧ PySem.Within mA (fs.map (·.1)) ∧ fs.length ≤ 1000 ∧ H dx = some (.own a) := by
  obtain ⟨d, z, ne, ob, mA, n, r, q⟩ := (show ObjOk P w H h a (.ins C dx fs) from hok a _ e)
  exact ⟨mA, ⟨ob, n, ne⟩, r, q, z, d⟩
end

/-! ### what of the text a class must have -/
structure Cls (K : PySem.W.Frag) (C : Addr) : Prop where
  pg : PySem.W.plainGet K C Str.empty = true
  hd : PySem.W.hasDictIn K C = true
  po : PySem.W.plainOver K C = true
  sa : PySem.W.findIn K (.ref C) "__setattr__" = some (some (.builtin "object.__setattr__"))
theorem Cls.get {K : PySem.W.Frag} {C : Addr} (c : Cls K C) (f : Str) : PySem.W.plainGet K C f = true := c.pg
/-- no class of it has the name -/
def NoAttr (K : PySem.W.Frag) (C : Addr) (f : Str) : Prop := PySem.W.findIn K (.ref C) f = some none
/-- a constant of the class -/
structure Con (K : PySem.W.Frag) (C : Addr) (f : Str) (v : V) (u : Value) : Prop where
  at_ : PySem.W.findIn K (.ref C) f = some (some u)
  rel : RelV v u
  get : PySem.W.specialIn K u "__get__" = some none
  cp : PySem.W.copiedNames.contains f = false
/-- a method: a plain def of the class or of one above it -/
structure Meth (K : PySem.W.Frag) (C : Addr) (m : Str) (f : Addr) : Prop where
  at_ : PySem.W.findIn K (.ref C) m = some (some (.ref f))
  fn : PySem.W.isFn K (.ref f) = true
  kp : PySem.W.keepIn K (.ref f) = true

section
variable {X : Cx} {pins : List (Addr × Obj)} {σ : St} {H : Hp} {s : Shared} {a C dx : Addr} {fs : List (Str × V)} {f : Str} {v : V} {A : Around} {E : Value → Shared → Prop}

/-- a new instance, tracked, without attributes -/
theorem Inv.made (I : Inv X pins σ H s) : Inv X pins σ (upd (upd H s.heap.objs.size (.own (s.heap.objs.size + 1))) (s.heap.objs.size + 1) (.ins C s.heap.objs.size []))
    { s with heap := (s.heap.push PySem.W.emptyDict).push (PySem.W.instObj C s.heap.objs.size) } := by
  have e1 : (s.heap.push PySem.W.emptyDict).get? s.heap.objs.size = some PySem.W.emptyDict := Heap.get?_push_size s.heap rfl
  have e2 : ((s.heap.push PySem.W.emptyDict).push (PySem.W.instObj C s.heap.objs.size)).get? (s.heap.objs.size + 1) = some (PySem.W.instObj C s.heap.objs.size) := by
    have := Heap.get?_push_size (s.heap.push PySem.W.emptyDict) (o := PySem.W.instObj C s.heap.objs.size) rfl
    rwa [Heap.size_push] at this
  have e3 : (s.heap.push PySem.W.emptyDict).Ns s.heap.objs.size (fun _ => none) := ⟨PySem.W.emptyDict, #[], _, e1, rfl, (fun e he => absurd he (by simp)), fun _ => rfl⟩
  have I1 := I.laid (a := s.heap.objs.size) (o := .own (s.heap.objs.size + 1)) (h' := s.heap.push PySem.W.emptyDict) (t' := s.toks) (fun b u q => Heap.get?_push_of_some _ q) (Nat.le_refl _) ⟨_, e1⟩
  refine I1.laid (a := s.heap.objs.size + 1) (o := .ins C s.heap.objs.size []) (t' := s.toks) (fun b u q => Heap.get?_push_of_some _ q) (Nat.le_of_eq (Heap.size_push _ _)) ?_
  have ne : s.heap.objs.size ≠ s.heap.objs.size + 1 := Nat.ne_of_lt (Nat.lt_succ_self _)
  refine ⟨by rw [upd_ne ne, upd_same], Nat.zero_le _, ne, e2, fun _ => none, (Heap.Ns1.of_empty e3).at fun o q => Heap.get?_push_of_some _ q, fun _ => True.intro, fun y hy => absurd rfl hy⟩

end

/-! ### readings and rules -/
section
variable {X : Cx} {o e value : Expr} {f : Str} {pos pos' tpos : Pos} {ta tv : TE}
end

/-! ### isinstance -/
section
variable {X : Cx} {pins : List (Addr × Obj)} {σ : St} {H : Hp} {s : Shared} {A : Around} {E : Value → Shared → Prop} {Q : Value → Shared → Prop} {c : Value} {b : Bool}
/-- the type of a value, as the fragment's deciders take it; for an instance its class -/
inductive TyOf (K : PySem.W.Frag) (H : Hp) : V → Value → Prop where
  | non : TyOf K H .non (.type "NoneType")
  | bl (x : Bool) : TyOf K H (.bl x) (.type "bool")
  | int (i : Int) : TyOf K H (.int i) (.type "int")
  | str (x : Str) : TyOf K H (.str x) (.type "str")
  | flt (x : UInt64) : TyOf K H (.flt x) (.type "float")
  | lst {a : Addr} {xs : List V} (e : H a = some (.lst xs)) : TyOf K H (.ref a) (.type "list")
  | frz {a : Addr} {o : Obj} {xs : List V} (e : H a = some (.frz o (.lst xs))) : TyOf K H (.ref a) (.type "list")
  | tup {a : Addr} {xs : List V} (e : H a = some (.tup xs)) : TyOf K H (.ref a) (.type "tuple")
  | dK {a : Addr} {kvs : List (Key × V)} (e : H a = some (.dK kvs)) : TyOf K H (.ref a) (.type "dict")
  | dT {a : Addr} {kvs : List (List Key × V)} (e : H a = some (.dT kvs)) : TyOf K H (.ref a) (.type "dict")
  | ins {a C dx : Addr} {fs : List (Str × V)} (e : H a = some (.ins C dx fs)) (cl : Cls K C) (ha : PySem.W.findIn K (.ref C) "__class__" = some (some (.builtin "object.__class__")))
      (hn : PySem.W.specialIn K (.builtin "object.__class__") "__get__" = some (some (.builtin "getset_descriptor.__get__"))) (htk : PySem.W.takesIn K (.builtin "object.__class__") = some true)
      (hm : PySem.W.mroIn K C (.type "object") = some true) : TyOf K H (.ref a) (.ref C)
/-- isinstance(x, c) for one class c, a built-in or an own one: kitOne's answer -/
theorem isinst_ok {x : V} {u t : Value} (I : Inv X pins σ H s) (rx : RelV x u) (ty : TyOf X.K H x t) (e : PySem.W.kitOne X.K t c = some b) (h : ∀ tk, Q (.bool b) { s with toks := tk }) :
    wpAny (model X.prog X.w) A (call (.builtin "isinstance") [u, c]) Q E s := by
  cases ty with
  | non => cases (show u = Value.none from rx); exact PySem.W.kia_one PySem.W.kitx_none I.kIn True.intro e (fun z => nomatch z) h
  | bl y => cases (show u = Value.bool y from rx); exact PySem.W.kia_one PySem.W.kitx_bool I.kIn True.intro e (fun z => nomatch z) h
  | int i => obtain ⟨t, q⟩ := (show ∃ t, u = Value.int i t from rx); cases q; exact PySem.W.kia_one PySem.W.kitx_int I.kIn True.intro e (fun z => nomatch z) h
  | str y => obtain ⟨t, q⟩ := (show ∃ t, u = Value.str y t from rx); cases q; exact PySem.W.kia_one PySem.W.kitx_str I.kIn True.intro e (fun z => nomatch z) h
  | flt y => obtain ⟨t, q⟩ := (show ∃ t, u = Value.float y t from rx); cases q; exact PySem.W.kia_one PySem.W.kitx_float I.kIn True.intro e (fun z => nomatch z) h
  | @lst a xs ea =>
    cases (show u = Value.ref a from rx)
    obtain ⟨_, _, n, _, h1⟩ := (show ObjOk X.prog X.w H s.heap a (.lst xs) from I.hok a _ ea)
    exact PySem.W.kia_one PySem.W.kitx_list I.kIn ⟨_, h1, rfl⟩ e (fun z => nomatch z) h
  | @frz a ob xs ea =>
    cases (show u = Value.ref a from rx)
    obtain ⟨_, _, _, n, _, h1⟩ := (show ObjOk X.prog X.w H s.heap a (.frz ob (.lst xs)) from I.hok a _ ea)
    exact PySem.W.kia_one PySem.W.kitx_list I.kIn ⟨_, h1, rfl⟩ e (fun z => nomatch z) h
  | @tup a xs ea =>
    cases (show u = Value.ref a from rx)
    obtain ⟨_, _, _, p⟩ := (show ObjOk X.prog X.w H s.heap a (.tup xs) from I.hok a _ ea)
    obtain ⟨o, h1, h2, _⟩ := p
    exact PySem.W.kia_one PySem.W.kitx_tuple I.kIn ⟨o, h1, h2⟩ e (fun z => nomatch z) h
  | @dK a kvs ea =>
    cases (show u = Value.ref a from rx)
    obtain ⟨_, _, vs, _, p⟩ := (show ObjOk X.prog X.w H s.heap a (.dK kvs) from I.hok a _ ea)
    obtain ⟨o, es, ep, h1, h2, _⟩ := p
    exact PySem.W.kia_one PySem.W.kitx_dict I.kIn ⟨o, h1, h2.1⟩ e (fun z => nomatch z) h
  | @dT a kvs ea =>
    cases (show u = Value.ref a from rx)
    obtain ⟨_, _, xs, _, o, es, ep, h1, h2, _⟩ := (show ObjOk X.prog X.w H s.heap a (.dT kvs) from I.hok a _ ea)
    exact PySem.W.kia_one PySem.W.kitx_dict I.kIn ⟨o, h1, h2.1⟩ e (fun z => nomatch z) h
  | @ins a C dx fs ea cl ha hn htk hm =>
    cases (show u = Value.ref a from rx)
    obtain ⟨mA, O, _⟩ := ins_get I.hok ea
    obtain ⟨od, J, _⟩ := O.look
    exact PySem.W.kia_one (PySem.W.kitx_own (cl.get _) cl.hd ha hn htk hm) I.kIn J e (fun z => nomatch z) h
end
end L2

namespace L2
open PySem PySem.Spec PyProof.Rows

/-! ### room -/
structure Room (k : Nat) (A : Around) : Prop where
  hd : A.handled = none
  dp : A.depth + 3 * k + 5 < recursionLimit
  un : A.units + 16 * k + 200 < cLine
theorem Room.mono {j k : Nat} {A : Around} (r : Room k A) (h : j ≤ k) : Room j A := ⟨r.hd, by have := r.dp; omega, by have := r.un; omega⟩
theorem Room.deeper {k : Nat} {A : Around} (r : Room (k + 1) A) (env : Env) : Room k (A.deeper env) :=
  ⟨r.hd, by have := r.dp; show A.depth + 1 + 3 * k + 5 < _; omega, by have := r.un; show A.units + 3 + 16 * k + 200 < _; omega⟩
theorem Room.in1 {k : Nat} {A : Around} (r : Room (k + 1) A) : Room k A.in1 :=
  ⟨r.hd, by have := r.dp; show A.depth + 3 * k + 5 < _; omega, by have := r.un; show A.units + 1 + 16 * k + 200 < _; omega⟩
theorem make_depth {A : Around} {C : Addr} {us : List Value} {kw : List (Str × Value)} : (A.under (.builtin "type.__call__" ⟨.ref C :: us, kw⟩)).depth = A.depth + 1 := by
  first | rfl | simp [Around.under, Code.weight, Code.isCreation, Code.isGuard, Code.isCaller, Code.frames, Code.isFrame, guardIds]
theorem make_units {A : Around} {C : Addr} {us : List Value} {kw : List (Str × Value)} : (A.under (.builtin "type.__call__" ⟨.ref C :: us, kw⟩)).units = A.units + 1 := by
  first | rfl | simp [Around.under, Code.cUnits, Code.frames, Code.isFrame]
theorem Room.make {k : Nat} {A : Around} (r : Room (k + 1) A) (C : Addr) (us : List Value) (kw : List (Str × Value)) : Room k (A.under (.builtin "type.__call__" ⟨.ref C :: us, kw⟩)) :=
  ⟨r.hd, by have := r.dp; rw [make_depth]; omega, by have := r.un; rw [make_units]; omega⟩
theorem Room.depth {k : Nat} {A : Around} (r : Room k A) : A.depth < recursionLimit := by have := r.dp; omega
theorem Room.units {k : Nat} {A : Around} (r : Room k A) : A.units + 64 < cLine := by have := r.un; omega
theorem Room.units0 {k : Nat} {A : Around} (r : Room k A) : A.units < cLine := by have := r.un; omega

/-! ### argument lists and displays -/
def tNil : TA := fun _ H Q => Q [] H
def tCons (ta : TE) (tr : TA) : TA := fun σ H Q => ta σ H fun x H1 => tr σ H1 fun xs H2 => Q (x :: xs) H2
section
variable {X : Cx} {e : Expr} {es : List Expr} {te : TE} {t : TA} {pos : Pos}
theorem pa_nil : PA X [] tNil := fun _ _ _ _ H Q I h => Calls.spliced_nil ⟨[], H, I, .nil, h⟩
theorem pa_cons (ha : PE X e te) (hr : PA X es t) (hs : starEach (e :: es) X.env = (false, eval e X.env) :: starEach es X.env := by rfl) : PA X (e :: es) (tCons te t) := by
  intro pos pins s σ H Q I h
  rw [hs]
  show wpAny _ _ (spliced ((false, eval e X.env) :: backTo pos (starEach es X.env))) _ _ s
  refine Calls.spliced_cons (thn (ha pins s σ H _ I h) fun u s1 ⟨x, H1, I1, r1, q1⟩ => ?_)
  exact thn (hr pos pins s1 σ H1 _ I1 q1) fun us s2 ⟨xs, H2, I2, r2, q2⟩ => ⟨x :: xs, H2, I2, .cons r1 r2, q2⟩

/-- a tuple, a list of written items -/
def tTup (t : TA) : TE := fun σ H Q => t σ H fun xs H1 => xs.length ≤ sizeLine ∧ ∀ p, H1 p = none → Q (.ref p) (upd H1 p (.tup xs))
def tLst (t : TA) : TE := fun σ H Q => t σ H fun xs H1 => xs.length ≤ sizeLine ∧ ∀ p, H1 p = none → Q (.ref p) (upd H1 p (.lst xs))
theorem pe_tup {x1} (h : PA X es t) : PE X (.Tuple es x1 pos) (tTup t) := by
  intro pins s σ H Q I hq
  refine wpAny_Tuple_spliced (thn (h pos pins s σ H _ I hq) fun us s1 ⟨xs, H1, I1, r, z, q⟩ => ⟨by rw [← r.length]; exact z, ?_⟩)
  have hf : H1 s1.heap.objs.size = none := I1.hok.fresh (Nat.le_refl _)
  refine ⟨.ref s1.heap.objs.size, upd H1 s1.heap.objs.size (.tup xs), I1.laid (t' := s1.toks) (fun b u e => Heap.get?_push_of_some _ e) (Nat.le_refl _) ?_, rfl, q _ hf⟩
  exact ⟨z, us, r, ⟨_, Heap.get?_push_size _ rfl, rfl, _, rfl⟩⟩
theorem pe_lst (h : PA X es t) : PE X (.List es pos) (tLst t) := by
  intro pins s σ H Q I hq
  refine wpAny_List_spliced (thn (h pos pins s σ H _ I hq) fun us s1 ⟨xs, H1, I1, r, z, q⟩ => ⟨by rw [← r.length]; exact z, ?_⟩)
  have hf : H1 s1.heap.objs.size = none := I1.hok.fresh (Nat.le_refl _)
  refine ⟨.ref s1.heap.objs.size, upd H1 s1.heap.objs.size (.lst xs), I1.laid (t' := s1.toks) (fun b u e => Heap.get?_push_of_some _ e) (Nat.le_refl _) ?_, rfl, q _ hf⟩
  exact ⟨z, us, 0, r, Heap.get?_push_size _ rfl⟩
end

/-! ### what a def promises -/
/-- a def's promise: the bound arguments in the parameters' order, the heap, the wanted end, the wanted exception -/
abbrev Sp := List V → Hp → VK → XK → Prop
/-- how an exception lies behind a call (file 08 gives it): the callers' frames, abstract heap and state ahead of the call, the wish, the exception, the state -/
abbrev CXT := List Env → Hp → Shared → XK → Value → Shared → Prop

/-- the state at a call -/
structure Env0 (P : Program) (w : World) (K : PySem.W.Frag) (mg : Str → Option Value) (base : Heap) (A : Around) (outer : List Env) (s : Shared) (H : Hp) : Prop where
  frames : A.frames = some outer
  mod : Mod K mg base
  bs : ∀ b o, base.get? b = some o → s.heap.get? b = some o ∧ H b = none
  bsz : base.objs.size ≤ s.heap.objs.size
  funs : s.heap.FunFrames base outer
  frf : ∀ b ∈ frs outer, H b = none
  hok : HOk P w H s.heap
  bare : AllBare s.gens
/-- a call's end -/
def CE (outer : List Env) (P : Program) (w : World) (H : Hp) (s : Shared) (Q : VK) (u : Value) (s' : Shared) : Prop :=
  ∃ v H', s'.os = s.os ∧ AllBare s'.gens ∧ Un (frs outer) [] H H' s.heap s'.heap ∧ HOk P w H' s'.heap ∧ RelV v u ∧ Q v H'
def CR (CX : CXT) (outer : List Env) (P : Program) (w : World) (H : Hp) (s : Shared) (Q : VK) (E : XK) (r : Result) (s' : Shared) : Prop :=
  match r with
  | .ok (.ret u) => CE outer P w H s Q u s'
  | .ok _ => False
  | .error e => CX outer H s E e s'
structure FnOk (P : Program) (w : World) (K : PySem.W.Frag) (mg : Str → Option Value) (base : Heap) (CX : CXT) (k : Nat) (f : Addr) (fd : FuncData) (ps : List Str) (sp : Sp) : Prop where
  len : ∀ vs H Q E, sp vs H Q E → vs.length = ps.length
  run : ∀ (A : Around) (outer : List Env) (s : Shared) (H : Hp) (args : Args) (us : List Value) (vs : List V) (Q : VK) (E : XK), Room k A → Env0 P w K mg base A outer s H → BindsTo s fd args (ps.zip us) → Vals vs us → sp vs H Q E →
    codeAny (model P w) A (.call (.ref f) args) (CR CX outer P w H s Q E) s
theorem FnOk.mono {P : Program} {w : World} {K : PySem.W.Frag} {mg : Str → Option Value} {base : Heap} {CX : CXT} {j k : Nat} {f : Addr} {fd : FuncData} {ps : List Str} {sp : Sp} (F : FnOk P w K mg base CX j f fd ps sp) (h : j ≤ k) :
    FnOk P w K mg base CX k f fd ps sp := ⟨F.len, fun A outer s H args us vs Q E hr => F.run A outer s H args us vs Q E (hr.mono h)⟩
/-- a weaker promise -/
theorem FnOk.imp {P : Program} {w : World} {K : PySem.W.Frag} {mg : Str → Option Value} {base : Heap} {CX : CXT} {k : Nat} {f : Addr} {fd : FuncData} {ps : List Str} {sp sp' : Sp} (F : FnOk P w K mg base CX k f fd ps sp)
    (h : ∀ vs H Q E, sp' vs H Q E → sp vs H Q E) : FnOk P w K mg base CX k f fd ps sp' :=
  ⟨fun vs H Q E q => F.len vs H Q E (h _ _ _ _ q), fun A outer s H args us vs Q E hr he hb hv hs => F.run A outer s H args us vs Q E hr he hb hv (h _ _ _ _ hs)⟩

theorem Env0.make {P : Program} {w : World} {K : PySem.W.Frag} {mg : Str → Option Value} {base : Heap} {A : Around} {outer : List Env} {s : Shared} {H : Hp} (e : Env0 P w K mg base A outer s H) (C : Addr) (us : List Value) (kw : List (Str × Value)) :
    Env0 P w K mg base (A.under (.builtin "type.__call__" ⟨.ref C :: us, kw⟩)) outer s H := ⟨by first | exact e.frames | (simpa [Around.under, Code.envs, Code.isFrame, pushEnvs] using e.frames), e.mod, e.bs, e.bsz, e.funs, e.frf, e.hok, e.bare⟩
theorem Env0.in1 {P : Program} {w : World} {K : PySem.W.Frag} {mg : Str → Option Value} {base : Heap} {A : Around} {outer : List Env} {s : Shared} {H : Hp} (e : Env0 P w K mg base A outer s H) :
    Env0 P w K mg base A.in1 outer s H := ⟨e.frames, e.mod, e.bs, e.bsz, e.funs, e.frf, e.hok, e.bare⟩

section
variable {X : Cx} {pins : List (Addr × Obj)} {σ : St} {H : Hp} {s s' : Shared}
/-- from a body: what a callee wants -/
theorem Inv.env0 (I : Inv X pins σ H s) : Env0 X.prog X.w X.K X.mg X.base X.A X.stack s H :=
  ⟨I.ok.frames, I.ok.mod, I.bs, Nat.le_trans I.ok.bsz I.sz, I.stack, I.stkFree, I.hok, I.bare⟩
/-- behind a call -/
theorem Inv.after {Q : VK} {u : Value} (I : Inv X pins σ H s) (h : CE X.stack X.prog X.w H s Q u s') : EP X pins σ Q u s' := by
  obtain ⟨v, H', os, bare, un, hok, r, q⟩ := h
  obtain ⟨hh, g, d, t, os'⟩ := s'
  obtain rfl : os' = s.os := os
  exact ⟨v, H', I.call (h' := hh) (g' := g) (d' := d) (t' := t) (ch := []) un hok bare (fun b z => absurd z (by simp)), r, q⟩
end

/-! ### calls -/
/-- f(..): the written arguments, then the defaults dvs; E: what is wanted of an exception -/
def tCall (sp : Sp) (dvs : List V) (E : XK) (t : TA) : TE := fun σ H Q => t σ H fun vs H1 => sp (vs ++ dvs) H1 Q E
/-- how the parameters are bound: us the positional arguments, kw the keywords' values by name, ds the defaults that fill up -/
def Binds (K : PySem.W.Frag) (fd : FuncData) (ps : List Str) (ds : List Value) : Prop :=
  ∀ (s : Shared) (us : List Value), K.In s.heap → (us ++ ds).length = ps.length → BindsTo s fd ⟨us, []⟩ (ps.zip (us ++ ds))
/-- every parameter is given -/
theorem Binds.all {K : PySem.W.Frag} {fd : FuncData} {ps : List Str} (h : ∀ us : List Value, us.length = ps.length → bindArgs fd ⟨us, []⟩ = pure (ps.zip us)) : Binds K fd ps [] := fun s us _ hl => by
  rw [List.append_nil] at hl ⊢
  exact .of_eq (h us hl)

/-- an exception of a callee reaches what this body wants of exceptions -/
def Passes (CX : CXT) (X : Cx) (E : XK) : Prop := ∀ (pins : List (Addr × Obj)) (σ : St) (H : Hp) (s : Shared) (e : Value) (s' : Shared), Inv X pins σ H s → CX X.stack H s E e s' → X.xe e s'

section
variable {X : Cx} {CX : CXT} {k : Nat} {f C : Addr} {fd : FuncData} {ps : List Str} {sp : Sp} {dvs : List V} {ds : List Value} {E : XK} {x m : Str} {p pos apos : Pos} {e o : Expr} {es : List Expr} {ta : TE} {t : TA}

/-- the callee runs -/
theorem run_fn {pins : List (Addr × Obj)} {σ : St} {H : Hp} {s : Shared} {Q : VK} {us : List Value} {vs : List V} (F : FnOk X.prog X.w X.K X.mg X.base CX k f fd ps sp) (hr : Room k X.A) (hb : Binds X.K fd ps ds) (hd : Vals dvs ds) (hx : Passes CX X E)
    (I : Inv X pins σ H s) (r : Vals vs us) (h : sp (vs ++ dvs) H Q E) : wpAny (model X.prog X.w) X.A (call (.ref f) us) (EP X pins σ Q) X.xe s := by
  have r2 : Vals (vs ++ dvs) (us ++ ds) := r.append hd
  have hl : (us ++ ds).length = ps.length := by rw [← r2.length]; exact F.len _ _ _ _ h
  refine wpAny_call (codeAny_mono (F.run X.A X.stack s H ⟨us, []⟩ (us ++ ds) (vs ++ dvs) Q E hr I.env0 (hb s us I.kIn hl) r2 h) fun r s' hq => ?_)
  cases r with
  | error e => exact hx pins σ H s e s' I hq
  | ok fl =>
    cases fl with
    | ret u => exact I.after hq
    | next => exact False.elim hq
    | brk => exact False.elim hq
    | cont => exact False.elim hq

theorem pe_call (F : FnOk X.prog X.w X.K X.mg X.base CX k f fd ps sp) (hr : Room k X.A) (hg : Gl X x) (hm : X.mg x = some (.ref f)) (hk : PySem.W.keepIn X.K (.ref f) = true) (hb : Binds X.K fd ps ds) (hd : Vals dvs ds) (hx : Passes CX X E)
    (ha : PA X (e :: es) t) (hdb : (x == ("__debug__" : Str)) = false := by decide) (he : starEach (e :: es) X.env = (false, eval e X.env) :: starEach es X.env := by rfl) (hpl : (backTo pos (starEach es X.env)).any (·.1) = false := by rfl) :
    PE X (.Call (.Name x p) (e :: es) [] pos) (tCall sp dvs E t) := by
  intro pins s σ H Q I h
  refine wpAny_Call_Name_kw (ld_glob I hg hm ?_ hdb)
  refine PySem.W.callWith_K (h₀ := X.base) I.ok.mod.kin hk (thn (ha pos pins s σ H _ I h) fun us s1 ⟨vs, H1, I1, r, q⟩ => ⟨I1.kIn, ?_⟩) he hpl
  exact run_fn F hr hb hd hx I1 r q
/-- what a class must have to be made -/
structure Mk (K : PySem.W.Frag) (C f : Addr) : Prop where
  makes : PySem.W.makesIn K C = true
  init : PySem.W.findIn K (.ref C) "__init__" = some (some (.ref f))
  fn : PySem.W.isFn K (.ref f) = true
  kp : PySem.W.keepIn K (.ref C) = true

end

/-! ### keywords -/
section
variable {X : Cx} {CX : CXT} {k : Nat} {f C : Addr} {fd : FuncData} {ps ks : List Str} {sp : Sp} {E : XK} {x m : Str} {p pos apos kpos : Pos} {e o : Expr} {es : List Expr} {kws : List Keyword} {te ta : TE} {t tk : TA} {nm : Option Str}
/-- how a call with keywords binds: g puts the positional values us and the keywords' values ws (names ks) in the parameters' order, defaults among them -/
structure KBinds (K : PySem.W.Frag) (fd : FuncData) (ps ks : List Str) (g : List Value → List Value → List Value) (gV : List V → List V → List V) : Prop where
  to : ∀ (s : Shared) (us ws : List Value), K.In s.heap → (g us ws).length = ps.length → BindsTo s fd ⟨us, ks.zip ws⟩ (ps.zip (g us ws))
  rel : ∀ {vs : List V} {us : List Value} {zs : List V} {ws : List Value}, Vals vs us → Vals zs ws → Vals (gV vs zs) (g us ws)
variable {g : List Value → List Value → List Value} {gV : List V → List V → List V}
end

/-! ### a def's body keeps its promise -/
/-- names: the parameters first -/
structure FnScope (N P : List Str) (sc : Scope) : Prop where
  kind : sc.kind = .function
  co : sc.isCoroutine = false
  gen : sc.isGenerator = false
  nd : N.Nodup
  pre : N.take P.length = P
  par : ∀ x ∈ P, sc.names.lookup x = some .local ∨ sc.names.lookup x = some .cell
  nofree : ∀ y ∈ sc.names, y.2 ≠ .free

theorem bindL_out {kindOf : Str → Option NameKind} {x : Str} : ∀ {binds : List (Str × Value)} {m : Str → Option Value}, (∀ v, (x, v) ∉ binds) → bindL kindOf binds m x = m x
  | [], _, _ => rfl
  | (n, v) :: r, m, h => by
    unfold bindL
    rw [bindL_out fun w hw => h w (List.mem_cons_of_mem _ hw)]
    split
    · have : x ≠ n := by rintro rfl; exact h v List.mem_cons_self
      simp [this]
    · rfl
theorem bindC_out {kindOf : Str → Option NameKind} {x : Str} : ∀ {binds : List (Str × Value)} {m : Str → Option Value}, (∀ v, (x, v) ∉ binds) → bindC kindOf binds m x = m x
  | [], _, _ => rfl
  | (n, v) :: r, m, h => by
    unfold bindC
    rw [bindC_out fun w hw => h w (List.mem_cons_of_mem _ hw)]
    split
    · rfl
    · have : x ≠ n := by rintro rfl; exact h v List.mem_cons_self
      simp [this]
theorem bindL_get {kindOf : Str → Option NameKind} {x : Str} {v : Value} : ∀ {P : List Str} {vs : List Value} {i : Nat} {m : Str → Option Value}, P.Nodup → P[i]? = some x → vs[i]? = some v → kindOf x = some .local →
    bindL kindOf (P.zip vs) m x = some v
  | [], _, _, _, _, h, _, _ => by simp at h
  | _ :: _, [], _, _, _, _, h, _ => by simp at h
  | p :: P, w :: vs, 0, m, nd, h1, h2, hk => by
    simp at h1 h2; subst h1; subst h2
    show bindL kindOf ((p, w) :: P.zip vs) m p = _
    unfold bindL
    rw [bindL_out fun v hv => (List.nodup_cons.mp nd).1 (List.of_mem_zip hv).1, if_pos hk]
    simp
  | p :: P, w :: vs, i + 1, m, nd, h1, h2, hk => by
    show bindL kindOf ((p, w) :: P.zip vs) m x = _
    unfold bindL
    exact bindL_get (i := i) (List.nodup_cons.mp nd).2 (by simpa using h1) (by simpa using h2) hk
theorem bindC_get {kindOf : Str → Option NameKind} {x : Str} {v : Value} : ∀ {P : List Str} {vs : List Value} {i : Nat} {m : Str → Option Value}, P.Nodup → P[i]? = some x → vs[i]? = some v → kindOf x ≠ some .local →
    bindC kindOf (P.zip vs) m x = some v
  | [], _, _, _, _, h, _, _ => by simp at h
  | _ :: _, [], _, _, _, _, h, _ => by simp at h
  | p :: P, w :: vs, 0, m, nd, h1, h2, hk => by
    simp at h1 h2; subst h1; subst h2
    show bindC kindOf ((p, w) :: P.zip vs) m p = _
    unfold bindC
    rw [bindC_out fun v hv => (List.nodup_cons.mp nd).1 (List.of_mem_zip hv).1, if_neg hk]
    simp
  | p :: P, w :: vs, i + 1, m, nd, h1, h2, hk => by
    show bindC kindOf ((p, w) :: P.zip vs) m x = _
    unfold bindC
    exact bindC_get (i := i) (List.nodup_cons.mp nd).2 (by simpa using h1) (by simpa using h2) hk

/-- the names' values at the entry -/
def start (N : List Str) (vs : List V) : St := vs.map some ++ List.replicate (N.length - vs.length) none

/-- the context of a def's body, at its entry; an exception leaves the frame, then lies as CX says -/
def cxOf (CX : CXT) (P : Program) (w : World) (K : PySem.W.Frag) (mg : Str → Option Value) (base : Heap) (N : List Str) (qual : Str) (scope : Scope) (f : Addr) (cd : Value) (A : Around) (outer : List Env) (s : Shared) (H : Hp) (E : XK) : Cx where
  prog := P
  w := w
  K := K
  mg := mg
  base := base
  A := A.deeper (envOfC qual scope s.heap.objs.size f cd)
  N := N
  s₀ := s
  H₀ := H
  env := envOfC qual scope s.heap.objs.size f cd
  outer := outer
  stack := envOfC qual scope s.heap.objs.size f cd :: outer
  ex := []
  calm := true
  fn := fun _ => true
  pn := []
  xe := fun e s' => wpAny (model P w) (A.deeper (envOfC qual scope s.heap.objs.size f cd)) (leaving (envOfC qual scope s.heap.objs.size f cd) e) (fun _ s'' => CX outer H s E e s'') (fun e' s'' => CX outer H s E e' s'') s'

theorem cell_has {sc : Scope} {n : Nat} {x : Str} (h : sc.names.lookup x = some .cell) : ∃ c, (cellsFrom n sc.names []).lookup x = some c := by
  have q := PySem.W.cellsFrom_some sc.names n [] (.inl h)
  exact Option.isSome_iff_exists.mp q

theorem inv_start {CX : CXT} {P : Program} {w : World} {K : PySem.W.Frag} {mg : Str → Option Value} {base : Heap} {N ps : List Str} {qual : Str} {scope : Scope} {f : Addr} {cd : Value} {A : Around} {outer : List Env} {s s1 : Shared} {H : Hp} {E : XK} {us : List Value} {vs : List V}
    (S : FnScope N ps scope) (hd : A.handled = none) (e0 : Env0 P w K mg base A outer s H) (hl : vs.length = ps.length) (r : Vals vs us)
    (x : InCallC s s.heap.objs.size (bindL (envOfC qual scope s.heap.objs.size f cd).kindOf (ps.zip us) fun _ => none) (cellsFrom (s.heap.objs.size + 1) scope.names []) (bindC (envOfC qual scope s.heap.objs.size f cd).kindOf (ps.zip us) fun _ => none) s1) :
    Inv (cxOf CX P w K mg base N qual scope f cd A outer s H E) [] (start N vs) H s1 := by
  have hpl : ps.length ≤ N.length := by have := congrArg List.length S.pre; rw [List.length_take] at this; omega
  obtain ⟨h1, tk, rfl, hk⟩ := x.done
  have noA : ∀ b : Addr, b ∉ (cxOf CX P w K mg base N qual scope f cd A outer s H E).ex := fun b z => absurd (show b ∈ ([] : List Addr) from z) (by simp)
  refine ⟨⟨e0.mod, S.kind, rfl, rfl, Nat.le_refl _, fun y z c h1 h2 => ?_, fun y hy => ?_, fun y c _ h => ?_, fun _ => hd, Around.frames_deeper e0.frames, .inr ⟨rfl, rfl⟩, fun b z => absurd z (noA b), e0.bs, e0.bsz, fun b _ _ => noA b, fun b z => absurd z (noA b), e0.funs, e0.frf⟩,
    rfl, e0.bare, Un.kept hk, ⟨_, x.toInCall.ns, fun i y v h1 h2 h3 => ?_⟩, fun y c h => ⟨_, x.cell y c h⟩, e0.hok.fresh (Nat.le_refl _), fun y c h => ?_, fun p hp => absurd (show p ∈ ([] : List (Addr × Obj)) from hp) (by simp), e0.hok.kept hk, ?_⟩
  · exact name_of_addr x.apart (PySem.mem_of_lookup h1) (PySem.mem_of_lookup h2)
  · have hy : scope.names.lookup y = some .cell ∨ scope.names.lookup y = some .free := hy
    rcases hy with hy | hy
    · exact cell_has hy
    · exact absurd rfl (S.nofree _ (PySem.mem_of_lookup hy))
  · exact Nat.le_of_lt (x.above y c (PySem.mem_of_lookup h))
  · have hi : i < vs.length := by
      unfold start at h2
      by_cases hi : i < vs.length
      · exact hi
      · rw [List.getElem?_append_right (by simpa using hi)] at h2
        rw [List.getElem?_replicate] at h2
        split at h2 <;> cases h2
    have ha : vs[i]? = some v := by
      unfold start at h2
      rw [List.getElem?_append_left (by simpa using hi), List.getElem?_map] at h2
      cases e : vs[i]? with
      | none => rw [e] at h2; cases h2
      | some a => rw [e] at h2; cases h2; rfl
    obtain ⟨u, hu, rv⟩ := r.get ha
    have hp : ps[i]? = some y := by
      rw [← S.pre, List.getElem?_take_of_lt (by omega)]; exact h1
    have ndP : ps.Nodup := by rw [← S.pre]; exact S.nd.sublist (List.take_sublist _ _)
    refine ⟨u, rv, ?_⟩
    rcases S.par y (List.mem_of_getElem? hp) with k | k
    · exact .inl ⟨k, bindL_get ndP hp hu k⟩
    · obtain ⟨c, e⟩ := cell_has (n := s.heap.objs.size + 1) k
      refine .inr ⟨.inl k, c, e, ?_⟩
      have q := x.cell y c e
      rw [bindC_get ndP hp hu (by show scope.names.lookup y ≠ _; rw [k]; decide)] at q
      exact q
  · exact e0.hok.fresh (Nat.le_of_lt (x.above y c (PySem.mem_of_lookup h)))
  · unfold start
    show _ = N.length
    rw [List.length_append, List.length_map, List.length_replicate]
    omega

/-- THE RULE: a def (or a method) of the text, by its body. The body's reading t is chosen for each entry; it is run at the parameters' values -/
theorem fn_of {CX : CXT} {P : Program} {w : World} {K : PySem.W.Frag} {mg : Str → Option Value} {base : Heap} {k : Nat} {f : Addr} {name qual : Str} {params : Arguments} {body : List Stmt} {scope : Scope} {dV kV doc pm cdv ct oc : Value} {an od : Option Addr}
    {osl : Array (Option Value)} {N ps : List Str} {sp : Sp} (lk : K.lookup f = some ⟨oc, od, .func (PySem.W.fnOf name qual params body scope dV kV doc pm an cdv ct), osl⟩) (hcd : PySem.W.codeIn K cdv qual = true) (S : FnScope N ps scope)
    (len : ∀ vs H Q E, sp vs H Q E → vs.length = ps.length)
    (hbody : ∀ (A : Around) (outer : List Env) (s : Shared) (H : Hp) (vs : List V) (Q : VK) (E : XK), Room k (A.deeper (envOfC qual scope s.heap.objs.size f cdv)) → sp vs H Q E →
      ∃ t, PSs (cxOf CX P w K mg base N qual scope f cdv A outer s H E) body t ∧ t { nx := fun _ H' => Q .non H', rt := Q } (start N vs) H) :
    FnOk P w K mg base CX (k + 1) f (PySem.W.fnOf name qual params body scope dV kV doc pm an cdv ct) ps sp := by
  refine ⟨len, fun A outer s H args us vs Q E hr e0 hb r hsp => ?_⟩
  have hl := len _ _ _ _ hsp
  have KX : K.In s.heap := e0.mod.kin.keeps fun b o e => (e0.bs b o e).1
  have lim : s.heap.NoLimit := e0.mod.nolimit.keeps fun b o e => (e0.bs b o e).1
  have hkind : ∀ y ∈ ps.zip us, scope.names.lookup y.1 = some .local ∨ (scope.names.lookup y.1 = some .cell ∧ ((cellsFrom (s.heap.objs.size + 1) scope.names []).lookup y.1).isSome = true) := fun ⟨n, v⟩ hy => by
    rcases S.par n (List.of_mem_zip hy).1 with q | q
    · exact .inl q
    · exact .inr ⟨q, PySem.W.cellsFrom_some _ _ _ (.inl q)⟩
  refine codeAny_call_function hr.depth (KX _ _ lk) rfl S.co S.gen rfl (PySem.W.codeRec_of KX hcd) (hb _ _ _ _ ?_)
  refine wpAny_newFunctionEnv_cells S.kind hkind fun env he s1 x => ?_
  subst he
  refine ⟨lim.keeps x.toInCall.keep, codeAny_func ?_⟩
  obtain ⟨t, ht, hq⟩ := hbody A outer s H vs Q E (hr.deeper _) hsp
  have I : Inv (cxOf CX P w K mg base N qual scope f cdv A outer s H E) [] (start N vs) H s1 := inv_start S hr.hd e0 hl r x
  refine wpAny_mono (ht [] s1 (start N vs) H _ I hq) (fun fl s' hs => ?_) fun e s' hs => hs
  have fin : ∀ {σ' : St} {H' : Hp} {v : V} {u : Value}, Inv (cxOf CX P w K mg base N qual scope f cdv A outer s H E) [] σ' H' s' → RelV v u → Q v H' → CE outer P w H s Q u s' :=
    fun {σ' H' v u} J rv q => ⟨v, H', J.os, J.bare, J.base, J.hok, rv, q⟩
  cases fl with
  | ret u =>
    obtain ⟨v, σ', H', J, rv, q⟩ := hs
    exact fin J rv q
  | next =>
    obtain ⟨σ', H', J, q⟩ := hs
    exact fin (v := V.non) (u := Value.none) J rfl q
  | brk =>
    obtain ⟨_, _, _, q⟩ := hs
    exact False.elim q
  | cont =>
    obtain ⟨_, _, _, q⟩ := hs
    exact False.elim q
end L2

namespace L2
open PySem PySem.Spec PyProof.Rows
section
variable {X : Cx} {x : Str} {p pos : Pos} {e : Expr} {es : List Expr} {t : TA} {id T : String} {r : List V → Hp → VK → Prop}

def tCB (r : List V → Hp → VK → Prop) (t : TA) : TE := fun σ H Q => t σ H fun vs H1 => r vs H1 Q
/-- f(e, ..), f a built-in function -/
theorem pe_callB (hc : CallR X (.builtin id) r) (hg : Gl X x) (hm : X.mg x = none) (hv : bootBuiltins x = some (.builtin id)) (ha : PA X (e :: es) t) (hn : x ≠ "__name__" := by decide) (hdb : (x == ("__debug__" : Str)) = false := by decide)
    (he : starEach (e :: es) X.env = (false, eval e X.env) :: starEach es X.env := by rfl) (hpl : (backTo pos (starEach es X.env)).any (·.1) = false := by rfl) : PE X (.Call (.Name x p) (e :: es) [] pos) (tCB r t) := by
  intro pins s σ H Q I h
  refine wpAny_Call_Name_kw (ld_blt I hg hm hv ?_ hn hdb)
  exact PyProof.Rows.callWith_builtin1 (thn (ha pos pins s σ H _ I h) fun us s1 ⟨vs, H1, I1, r1, q1⟩ => hc pins s1 σ H1 vs us Q I1 r1 q1) he hpl
/-- T(e, ..), T a built-in type -/
theorem pe_callTy (hc : CallR X (.type T) r) (hg : Gl X x) (hm : X.mg x = none) (hv : bootBuiltins x = some (.type T)) (ha : PA X (e :: es) t) (hn : x ≠ "__name__" := by decide) (hdb : (x == ("__debug__" : Str)) = false := by decide)
    (he : starEach (e :: es) X.env = (false, eval e X.env) :: starEach es X.env := by rfl) (hpl : (backTo pos (starEach es X.env)).any (·.1) = false := by rfl) : PE X (.Call (.Name x p) (e :: es) [] pos) (tCB r t) := by
  intro pins s σ H Q I h
  refine wpAny_Call_Name_kw (ld_blt I hg hm hv ?_ hn hdb)
  exact PyProof.Rows.callWith_type1 (thn (ha pos pins s σ H _ I h) fun us s1 ⟨vs, H1, I1, r1, q1⟩ => hc pins s1 σ H1 vs us Q I1 r1 q1) he hpl
end
end L2

namespace HT
open PySem PyProof.Rows

/-- t < u of tuples of ints -/
def lexLt : List Int → List Int → Bool
  | [], [] => false
  | [], _ :: _ => true
  | _ :: _, [] => false
  | x :: xs, y :: ys => if x = y then lexLt xs ys else decide (x < y)
theorem lexLt_cons (x y : Int) (xs ys : List Int) : lexLt (x :: xs) (y :: ys) = if x = y then lexLt xs ys else decide (x < y) := rfl
theorem lexLt_nil_nil : lexLt [] [] = false := rfl
theorem lexLt_nil_cons (y : Int) (ys : List Int) : lexLt [] (y :: ys) = true := rfl
theorem lexLt_cons_nil (x : Int) (xs : List Int) : lexLt (x :: xs) [] = false := rfl

theorem eqAt_int (A : Around) (s : Shared) (a : Int) (t : Tok) (c : Int) (u : Tok) : ∃ e, SeqAt.EqAt A s (.int a t) (.int c u) e ∧ (e = true ↔ a = c) :=
  ⟨(a == c), SeqAt.EqAt.int_int a t c u, by simp⟩
theorem rcLt_int (A : Around) (s : Shared) (a : Int) (t : Tok) (c : Int) (u : Tok) (prog : Program) (w : World) (E : Value → Shared → Prop) (Q : Value → Shared → Prop) (h : Q (.bool (decide (a < c))) s) :
    wpAny (model prog w) A (richCompare .Lt (.int a t) (.int c u)) Q E s :=
  (PyProof.Rows.lt_int h : wpAny (model prog w) A (compareOp .Lt (.int a t) (.int c u)) Q E s)

section
open PySem.SeqAt
open PySem.AutoSeq1 (wpAny_loadPart')
open PySem.MeetsSeq PySem.MeetsSeq2 PySem.MeetsSeq3

theorem tuple_lt_ints (l b : Addr) (items items2 : Array Value) (n n2 : Nat) (dd dd2 : Option Addr) (sl sl2 : Array (Option Value)) (ns ms : List Int) (hi : IntsAre items.toList ns) (hj : IntsAre items2.toList ms) :
    Meets (Builtin.«tuple.__lt__» ⟨[.ref l, .ref b], []⟩)
      (fun _ R s => s.heap.get? l = some { cls := .type "tuple", dict := dd, data := .seq items n, slots := sl } ∧ s.heap.get? b = some { cls := .type "tuple", dict := dd2, data := .seq items2 n2, slots := sl2 } ∧
        R (.ok (.ret (.bool (lexLt ns ms)))) s) :=
  .of_wp fun prog w A R s h => by
    obtain ⟨hp, g, d, tk, os⟩ := s; obtain ⟨hl, hb, h⟩ := h
    have f2 := AutoSeq1.sub_tuple_tuple
    have z1 : items.size = ns.length := by rw [← hi.length]; simp
    have z2 : items2.size = ms.length := by rw [← hj.length]; simp
    wp_walk using wpAny_loadPart' hl, wpAny_loadPart' hb, wpAny_forIn_list _ (fun rest b s' => b.1 = none ∧ s' = ⟨hp, g, d, tk, os⟩ ∧ ∃ (vs ws : List Value) (ns' ms' : List Int), rest = vs.zip ws ∧
      IntsAre vs ns' ∧ IntsAre ws ms' ∧ ns'.length + items2.size = ms'.length + items.size ∧ R (.ok (.ret (.bool (lexLt ns' ms')))) ⟨hp, g, d, tk, os⟩) _
    case turn =>
      rintro ⟨y, x⟩ rest b s' ⟨hb', rfl, vs, ws, ns', ms', hz, hvi, hwi, hlen, hR⟩
      cases hvi with
      | nil => rw [List.zip_nil_left] at hz; cases hz
      | cons a t hvi' =>
        cases hwi with
        | nil => rw [List.zip_nil_right] at hz; cases hz
        | cons c u hwi' =>
          rw [List.zip_cons_cons] at hz
          injection hz with hyx hrest
          injection hyx with hy hx
          subst hy hx
          rw [lexLt_cons] at hR
          simp only [List.length_cons] at hlen
          obtain ⟨e, he, hiff⟩ := eqAt_int A.in1 ⟨hp, g, d, tk, os⟩ a t c u
          refine wpAny_bind (he prog w _ _ ?_)
          cases e with
          | true =>
            rw [if_pos (hiff.mp rfl)] at hR
            wp_walk
            exact ⟨rfl, rfl, _, _, _, _, hrest, hvi', hwi', by omega, hR⟩
          | false =>
            rw [if_neg (fun q => absurd (hiff.mpr q) Bool.false_ne_true)] at hR
            have hri := rcLt_int A.in1 ⟨hp, g, d, tk, os⟩ a t c u prog w
            wp_walk using hri
            exact ⟨_, rfl, by simpa using hR⟩
    case fin =>
      rintro ⟨b1, b2⟩ s' ⟨hb', rfl, vs, ws, ns', ms', hz, hvi, hwi, hlen, hR⟩
      simp only at hb'
      subst hb'
      have hv : lexLt ns' ms' = decide (items.size < items2.size) := by
        cases hvi with
        | nil =>
          cases hwi with
          | nil =>
            simp only [List.length_nil] at hlen
            rw [lexLt_nil_nil]
            exact (decide_eq_false (by omega)).symm
          | cons c u hw =>
            simp only [List.length_nil, List.length_cons] at hlen
            rw [lexLt_nil_cons]
            exact (decide_eq_true (by omega)).symm
        | cons a t hv =>
          cases hwi with
          | nil =>
            simp only [List.length_nil, List.length_cons] at hlen
            rw [lexLt_cons_nil]
            exact (decide_eq_false (by omega)).symm
          | cons c u hw =>
            rw [List.zip_cons_cons] at hz
            cases hz
      rw [hv] at hR
      wp_walk
      exact ⟨_, rfl, by simpa [Builtin.Tuple.tupleCompareSizes] using hR⟩
    case h =>
      exact ⟨rfl, rfl, items.toList, items2.toList, ns, ms, rfl, hi, hj, by omega, h⟩
end

section
variable {prog : Program} {w : World} {A : Around} {E : Value → Shared → Prop} {s : Shared}

theorem lt_tupInts {l b : Addr} {items items2 : Array Value} {ns ms : List Int} {Q : Value → Shared → Prop} (hl : IsTup s.heap l items) (hb : IsTup s.heap b items2) (hi : IntsAre items.toList ns) (hj : IntsAre items2.toList ms)
    (hu : A.units < cLine) (h : Q (.bool (lexLt ns ms)) s) : wpAny (model prog w) A (compareOp .Lt (.ref l) (.ref b)) Q E s := by
  obtain ⟨⟨cls, dd, data, sl⟩, ho, hc, n, hd⟩ := id hl
  obtain ⟨⟨cls2, dd2, data2, sl2⟩, ho2, hc2, n2, hd2⟩ := id hb
  simp only at hc hd hc2 hd2
  subst hc hd hc2 hd2
  exact richCompare_meets_room (op := .Lt) ⟨_, ho, rfl⟩ ⟨_, ho2, rfl⟩ PySem.F.slot_tuple_lt PySem.F.entry_tuple_lt (PySem.F.args_tuple_lt_2 _ _) (tuple_lt_ints l b items items2 n n2 dd dd2 sl sl2 ns ms hi hj)
    ⟨ho, ho2, show Value.bool (lexLt ns ms) ≠ Value.notImplemented ∧ Q (.bool (lexLt ns ms)) s from ⟨(fun x => nomatch x), h⟩⟩ hu

/-! ### t[a:b], not the whole -/
/-- a slice's bound as a place among n (d where it is left out) -/
def sIx (n d : Nat) : Option Int → Nat
  | none => d
  | some v => if v < 0 then (v + (n : Int)).toNat else min v.toNat n
end
end HT

namespace L2
open PySem PySem.Spec PyProof.Rows

/-! ### the parts of a slice -/
abbrev TO := St → Hp → (Option Int → Hp → Prop) → Prop
theorem intsAre_of {ns : List Int} : ∀ {us : List Value}, Vals (ns.map V.int) us → IntsAre us ns := by
  induction ns with
  | nil => intro us r; rw [List.map_nil] at r; cases r; exact .nil
  | cons n ns ih =>
    intro us r
    rw [List.map_cons] at r
    cases r with
    | cons r1 r2 =>
      obtain ⟨t, e⟩ := r1
      subst e
      exact .cons n t (ih r2)

section
variable {X : Cx} {e : Expr} {te : TE} {lo hi : Option Expr} {tl th : TO} {pos p2 : Pos}

/-- what a slice of a value is, by values: the slice object stands at sl -/
def SlR (X : Cx) (r : V → Option Int → Option Int → Hp → VK → Prop) : Prop :=
  ∀ (pins : List (Addr × Obj)) (s : Shared) (σ : St) (H : Hp) (x : V) (v vl vu : Value) (lo hi : Option Int) (sl : Addr) (Q : VK), Inv X pins σ H s → RelV x v → s.heap.IsSliceOf sl vl vu .none → IsPart vl lo → IsPart vu hi → r x lo hi H Q →
    ∃ T id, typeLookup (.type T) "__getitem__" = pure (some (.builtin id)) ∧ s.TypeIs v T ∧ wpAny (model X.prog X.w) X.A (getItem v (.ref sl)) (EP X pins σ Q) X.xe s
theorem SlR.or {r r' : V → Option Int → Option Int → Hp → VK → Prop} (h : SlR X r) (h' : SlR X r') : SlR X (fun x lo hi H Q => r x lo hi H Q ∨ r' x lo hi H Q) := by
  intro pins s σ H x v vl vu lo hi sl Q I rx hs pl pu q
  rcases q with q | q
  · exact h pins s σ H x v vl vu lo hi sl Q I rx hs pl pu q
  · exact h' pins s σ H x v vl vu lo hi sl Q I rx hs pl pu q
/-! ### t < u, t + u -/
def rLtT (K : PySem.W.Frag) : R2 := fun x y H Q => ∃ a b ns ms, x = .ref a ∧ y = .ref b ∧ SqT K H a (ns.map V.int) ∧ SqT K H b (ms.map V.int) ∧ Q (.bl (HT.lexLt ns ms)) H
theorem op_ltT (hu : X.A.units < cLine) : OpR X (compareOp .Lt) (rLtT X.K) := by
  intro pins s σ H x y v u Q I rx ry h
  obtain ⟨a, b, ns, ms, rfl, rfl, ha, hb, q⟩ := h
  cases rx
  cases ry
  obtain ⟨its, r1, p1, _⟩ := I.tuple ha
  obtain ⟨its2, r2, p2, _⟩ := I.tuple hb
  have i1 : IntsAre its.toArray.toList ns := intsAre_of r1
  have i2 : IntsAre its2.toArray.toList ms := intsAre_of r2
  exact HT.lt_tupInts p1 p2 i1 i2 hu ⟨.bl (HT.lexLt ns ms), H, I, rfl, q⟩
end
end L2

namespace L2
open PySem PySem.Spec PyProof.Rows

/-! ### places -/
/-- the place that an index of any sign means -/
def ixN (n : Nat) (i : Int) : Option Nat := if 0 ≤ i then (if i < n then some i.toNat else none) else if -(n : Int) ≤ i then some (i + n).toNat else none
def atI {α : Type} (xs : List α) (i : Int) : Option α := (ixN xs.length i).bind fun j => xs[j]?
theorem ixN_seq {n : Nat} {i : Int} {j : Nat} (h : ixN n i = some j) : seqIndex? i n = some j ∧ j < n ∧ -(n : Int) ≤ i ∧ i < n := by
  unfold ixN at h
  by_cases h0 : 0 ≤ i
  · rw [if_pos h0] at h
    by_cases h1 : i < n
    · rw [if_pos h1] at h
      have e : i.toNat = j := Option.some.inj h
      exact ⟨by rw [seqIndex_of h0 h1, e], by omega, by omega, h1⟩
    · rw [if_neg h1] at h; cases h
  · rw [if_neg h0] at h
    by_cases h1 : -(n : Int) ≤ i
    · rw [if_pos h1] at h
      have e : (i + n).toNat = j := Option.some.inj h
      exact ⟨by rw [seqIndex_neg (by omega) h1, e], by omega, h1, by omega⟩
    · rw [if_neg h1] at h; cases h
theorem atI_get {α : Type} {xs : List α} {i : Int} {v : α} (h : atI xs i = some v) : ∃ j, seqIndex? i xs.length = some j ∧ xs[j]? = some v ∧ j < xs.length ∧ -(xs.length : Int) ≤ i ∧ i < xs.length := by
  unfold atI at h
  cases e : ixN xs.length i with
  | none => rw [e] at h; cases h
  | some j =>
    rw [e] at h
    obtain ⟨h1, h2, h3, h4⟩ := ixN_seq e
    exact ⟨j, h1, h, h2, h3, h4⟩
/-! ### what may be subscripted -/
/-- what stands as an index of a plain subscript -/
def PlainIx (b : Expr) : Prop := ∀ o i, subscripted b false o i = operate [o, i] (getItem o i)
/-- a subscript by values -/
def IxR (X : Cx) (r : R2) : Prop :=
  ∀ (value slice : Expr) (pins : List (Addr × Obj)) (s : Shared) (σ : St) (H : Hp) (x y : V) (v u : Value) (Q : VK), Inv X pins σ H s → RelV x v → RelV y u → r x y H Q →
    subscripted slice false v u = operate [v, u] (getItem v u) → wpAny (model X.prog X.w) X.A (subscriptTail value slice v u) (EP X pins σ Q) X.xe s
/-- a call of a builtin's method by values: the receiver, the arguments -/
def MtR (X : Cx) (id : String) (r : V → List V → Hp → VK → Prop) : Prop :=
  ∀ (pins : List (Addr × Obj)) (s : Shared) (σ : St) (H : Hp) (x : V) (xs : List V) (v : Value) (us : List Value) (Q : VK), Inv X pins σ H s → RelV x v → Vals xs us → r x xs H Q →
    wpAny (model X.prog X.w) X.A (call (.builtin id) (v :: us)) (EP X pins σ Q) X.xe s
section
variable {X : Cx} {a b : Expr} {ta tb : TE} {pos : Pos}
theorem IxR.or {r r' : R2} (h : IxR X r) (h' : IxR X r') : IxR X (fun x y H Q => r x y H Q ∨ r' x y H Q) := by
  intro value slice pins s σ H x y v u Q I rx ry q hs
  rcases q with q | q
  · exact h value slice pins s σ H x y v u Q I rx ry q hs
  · exact h' value slice pins s σ H x y v u Q I rx ry q hs
theorem MtR.or {id : String} {r r' : V → List V → Hp → VK → Prop} (h : MtR X id r) (h' : MtR X id r') : MtR X id (fun x xs H Q => r x xs H Q ∨ r' x xs H Q) := by
  intro pins s σ H x xs v us Q I rx rs q
  rcases q with q | q
  · exact h pins s σ H x xs v us Q I rx rs q
  · exact h' pins s σ H x xs v us Q I rx rs q
/-- a[b] -/
theorem pe_ix {r : R2} (hr : IxR X r) (ha : PE X a ta) (hb : PE X b tb) (hs : PlainIx b) : PE X (.Subscript a b pos) (tOp r ta tb) := by
  intro pins s σ H Q I h
  exact Subscript_ (binT ha hb I h fun v u s2 x y H2 I2 rx ry q => hr a b pins s2 σ H2 x y v u Q I2 rx ry q (hs _ _))

def rIxL (K : PySem.W.Frag) : R2 := fun x y H Q => ∃ p xs i v, x = .ref p ∧ y = .int i ∧ SqL K H p xs ∧ atI xs i = some v ∧ Q v H
def rIxT (K : PySem.W.Frag) : R2 := fun x y H Q => ∃ p xs i v, x = .ref p ∧ y = .int i ∧ SqT K H p xs ∧ atI xs i = some v ∧ Q v H
def rIxS : R2 := fun x y H Q => ∃ z i c, x = .str z ∧ y = .int i ∧ z.length ≤ sizeLine ∧ atI z.cps.toList i = some c ∧ Q (.str ⟨#[c]⟩) H
theorem ix_list : IxR X (rIxL X.K) := by
  intro value slice pins s σ H x y v u Q I rx ry h hs
  obtain ⟨p, xs, i, z, rfl, rfl, hq, he, q⟩ := h
  cases rx
  obtain ⟨t, rfl⟩ := ry
  obtain ⟨its, r, pl, hz⟩ := I.list hq
  obtain ⟨j, h1, h2, h3, h4, h5⟩ := atI_get he
  obtain ⟨w, ew, rw'⟩ := r.get h2
  have hl := r.length
  have hn := line63
  have fin : EP X pins σ Q w s := ⟨z, H, I, rw', q⟩
  by_cases h0 : 0 ≤ i
  · have hj : i.toNat = j := by
      rw [seqIndex_of h0 h5] at h1
      exact Option.some.inj h1
    exact item_listR pl.isList h0 (by omega) (by rw [hj]; simpa using ew) fin hs
  · have hj : (i + (its.toArray.size : Int)).toNat = j := by
      rw [seqIndex_neg (by omega) h4] at h1
      rw [List.size_toArray, ← hl]
      exact Option.some.inj h1
    exact subscriptTail_builtinR (x := w) pl.isList.typeIs slot_list_getitem.lookup
      (wpAny_getItem_list_neg (Q := fun r s' => r = w ∧ EP X pins σ Q r s') pl.isList (by omega) (by rw [List.size_toArray] <;> omega) (by omega) (by rw [hj]; simpa using ew) ⟨rfl, fin⟩) hs
theorem ix_tup : IxR X (rIxT X.K) := by
  intro value slice pins s σ H x y v u Q I rx ry h hs
  obtain ⟨p, xs, i, z, rfl, rfl, hq, he, q⟩ := h
  cases rx
  obtain ⟨t, rfl⟩ := ry
  obtain ⟨its, r, pl, hz⟩ := I.tuple hq
  obtain ⟨j, h1, h2, h3, h4, h5⟩ := atI_get he
  obtain ⟨w, ew, rw'⟩ := r.get h2
  have hl := r.length
  have hn := line63
  have fin : EP X pins σ Q w s := ⟨z, H, I, rw', q⟩
  exact subscriptTail_builtinR (x := w) pl.typeIs slot_tuple_getitem.lookup
    (getItem_tuple (j := j) (Q := fun r s' => r = w ∧ EP X pins σ Q r s') pl (by omega) (by omega) (by rw [List.size_toArray, ← hl]; exact h1) (by simpa using ew) ⟨rfl, fin⟩) hs
theorem ix_str : IxR X rIxS := by
  intro value slice pins s σ H x y v u Q I rx ry h hs
  obtain ⟨z, i, c, rfl, rfl, hz, he, q⟩ := h
  obtain ⟨t, rfl⟩ := rx
  obtain ⟨t', rfl⟩ := ry
  obtain ⟨j, h1, h2, h3, h4, h5⟩ := atI_get he
  have hl : z.cps.toList.length = z.length := by simp [Str.length]
  rw [hl] at h1 h4 h5
  have hn := line63
  exact tail_any (typeIs_str s z t) slot_str_getitem.lookup (getItem_str (c := c) (by
    have e1 : decide (i < -(2 ^ 63 : Int)) = false := decide_eq_false (by omega)
    have e2 : decide (i ≥ 2 ^ 63) = false := decide_eq_false (by omega)
    rw [e1, e2, Bool.or_false]) (by rw [h1]; simpa using h2) ⟨.str ⟨#[c]⟩, H, I.tok _, ⟨_, rfl⟩, q⟩) hs
/-! ### xs[i] = v, any sign -/
theorem Inv.lst {pins : List (Addr × Obj)} {σ : St} {H : Hp} {s : Shared} {p : Addr} {xs : List V} (I : Inv X pins σ H s) (h : H p = some (.lst xs)) :
    ∃ (its : List Value) (n : Nat), Vals xs its ∧ s.heap.get? p = some { cls := .type "list", data := .seq its.toArray n } ∧ xs.length ≤ sizeLine := by
  obtain ⟨z, its, n, r, e⟩ := I.hok p _ h
  exact ⟨its, n, r, e, z⟩
/-! ### slices -/
/-! ### in, not in: flat items -/
/-! ### len, list(x), tuple(x) of any list or tuple that is read -/
theorem call_len_seq : CallR X (.builtin "len") (fun xs H Q => ∃ p ys, xs = [.ref p] ∧ (SqL X.K H p ys ∨ SqT X.K H p ys) ∧ Q (.int ys.length) H) := by
  intro pins s σ H xs us Q I r h
  obtain ⟨p, ys, rfl, hq, q⟩ := h
  obtain ⟨u, rfl, rx⟩ := vals1 r
  cases rx
  have hn := line63
  rcases hq with hq | hq
  · obtain ⟨its, r', pl, hz⟩ := I.list hq
    have hlen := r'.length
    exact Calls.call_len_list pl.isList (by simp only [List.size_toArray] <;> omega) ⟨.int ys.length, H, I.tok _, ⟨s.toks + 1, by rw [List.size_toArray, hlen]⟩, q⟩
  · obtain ⟨its, r', pl, hz⟩ := I.tuple hq
    have hlen := r'.length
    exact len_tuple pl (by simp only [List.size_toArray] <;> omega) ⟨.int ys.length, H, I.tok _, ⟨s.toks + 1, by rw [List.size_toArray, hlen]⟩, q⟩
theorem call_len_str : CallR X (.builtin "len") (fun xs H Q => ∃ z, xs = [.str z] ∧ z.length ≤ sizeLine ∧ Q (.int z.length) H) := by
  intro pins s σ H xs us Q I r h
  obtain ⟨z, rfl, hz, q⟩ := h
  obtain ⟨u, rfl, t, rfl⟩ := vals1 r
  have hn := line63
  exact len_str (by omega) ⟨.int z.length, H, I.tok _, ⟨_, rfl⟩, q⟩
theorem CallR.or {f : Value} {r r' : List V → Hp → VK → Prop} (h : CallR X f r) (h' : CallR X f r') : CallR X f (fun xs H Q => r xs H Q ∨ r' xs H Q) := by
  intro pins s σ H xs us Q I rs q
  rcases q with q | q
  · exact h pins s σ H xs us Q I rs q
  · exact h' pins s σ H xs us Q I rs q
theorem call_list_of : CallR X (.type "list") (fun xs H Q => ∃ p ys, xs = [.ref p] ∧ (SqL X.K H p ys ∨ SqT X.K H p ys) ∧ ∀ l, H l = none → Q (.ref l) (upd H l (.lst ys))) := by
  intro pins s σ H xs us Q I r h
  obtain ⟨p, ys, rfl, hq, q⟩ := h
  obtain ⟨u, rfl, rx⟩ := vals1 r
  cases rx
  have fin : ∀ (its : List Value), Vals ys its → ys.length ≤ sizeLine → ∀ (h' : Heap) (c' : Nat), (∀ b o', s.heap.get? b = some o' → h'.get? b = some o') →
      h'.get? s.heap.objs.size = some { cls := .type "list", dict := none, data := .seq its.toArray c', slots := #[] } → EP X pins σ Q (.ref s.heap.objs.size) { s with heap := h' } := fun its r' hz h' c' kp e =>
    ⟨.ref s.heap.objs.size, _, I.laid (t' := s.toks) kp (Nat.le_refl _) (show ObjOk X.prog X.w _ h' _ (.lst ys) from ⟨hz, its, c', r', e⟩), rfl, q _ (I.hok.fresh (Nat.le_refl _))⟩
  rcases hq with hq | hq
  · obtain ⟨its, r', pl, hz⟩ := I.list hq
    have hlen := r'.length
    obtain ⟨o, ho, hc, n, hd⟩ := pl.isList
    exact call_list_seq p (.inl rfl) ho hc hd (fun h' c' kp e => fin its r' hz h' c' kp e) (by simp only [List.size_toArray] <;> omega)
  · obtain ⟨its, r', pl, hz⟩ := I.tuple hq
    have hlen := r'.length
    obtain ⟨o, ho, hc, n, hd⟩ := pl
    exact call_list_seq p (.inr rfl) ho hc hd (fun h' c' kp e => fin its r' hz h' c' kp e) (by simp only [List.size_toArray] <;> omega)
/-! ### the call of a builtin's method: o.m(..) -/
/-- the value is of that builtin type -/
def tyV (K : PySem.W.Frag) (T : String) (x : V) (H : Hp) : Prop := match x with
  | .str _ => T = "str"
  | .int _ => T = "int"
  | .ref p => (T = "list" ∧ ∃ xs, SqL K H p xs) ∨ (T = "tuple" ∧ ∃ o, K.lookup p = some o ∧ o.cls = .type "tuple" ∧ o.dict = none) ∨
      (T = "dict" ∧ ((∃ kvs, H p = some (.dK kvs)) ∨ ∃ kvs, H p = some (.dT kvs))) ∨ (T = "set" ∧ ∃ S n, H p = some (.set S n))
  | _ => False
theorem tyV_is {pins : List (Addr × Obj)} {σ : St} {H : Hp} {s : Shared} {T : String} {x : V} {v : Value} (I : Inv X pins σ H s) (r : RelV x v) (ty : tyV X.K T x H) :
    s.TypeIs v T ∧ ∀ a, v = .ref a → ∃ ob, s.heap.get? a = some ob ∧ ob.dict = none := by
  cases x with
  | str z =>
    obtain ⟨t, rfl⟩ := r
    cases (show T = "str" from ty)
    exact ⟨typeIs_str s z t, fun _ e => nomatch e⟩
  | int i =>
    obtain ⟨t, rfl⟩ := r
    cases (show T = "int" from ty)
    exact ⟨typeIs_int s i t, fun _ e => nomatch e⟩
  | ref p =>
    cases r
    rcases ty with ⟨rfl, xs, hq⟩ | ⟨rfl, o, hk, hc, hd⟩ | ⟨rfl, hk⟩ | ⟨rfl, S, n, hk⟩
    · obtain ⟨its, _, pl, _⟩ := I.list hq
      refine ⟨pl.isList.typeIs, fun a e => ?_⟩
      cases e
      obtain ⟨o, n, e, c, hd, _⟩ := pl
      exact ⟨o, e, hd⟩
    · refine ⟨⟨o, I.kIn p o hk, hc⟩, fun a e => ?_⟩
      cases e
      exact ⟨o, I.kIn _ o hk, hd⟩
    · have z : ∃ o, s.heap.get? p = some o ∧ o.ExactDict := by
        rcases hk with ⟨kvs, hk⟩ | ⟨kvs, hk⟩
        · obtain ⟨_, _, _, _, o, _, _, e, ex, _⟩ := I.hok p _ hk
          exact ⟨o, e, ex⟩
        · obtain ⟨_, _, _, _, o, _, _, e, ex, _⟩ := I.hok p _ hk
          exact ⟨o, e, ex⟩
      obtain ⟨o, e, ex⟩ := z
      refine ⟨⟨o, e, ex.1⟩, fun a e2 => ?_⟩
      cases e2
      exact ⟨o, e, ex.2.1⟩
    · obtain ⟨o, _, _, _, e, ex, _⟩ := I.hok p _ hk
      refine ⟨⟨o, e, ex.1⟩, fun a e2 => ?_⟩
      cases e2
      exact ⟨o, e, ex.2.1⟩
  | _ => exact False.elim ty
def tBM (K : PySem.W.Frag) (T : String) (r : V → List V → Hp → VK → Prop) (to : TE) (t : TA) : TE := fun σ H Q => to σ H fun x H1 => tyV K T x H1 ∧ t σ H1 fun xs H2 => r x xs H2 Q
variable {o e : Expr} {es : List Expr} {to : TE} {t : TA} {name : Str} {apos cpos : Pos} {T id : String} {r : V → List V → Hp → VK → Prop}
theorem pe_bm (pa : PlainAttrs T) (slot : Slot T name id) (hty : typeOf (.builtin id) = pure (.type "method_descriptor")) (hm : MtR X id r) (ho : PE X o to) (ha : PA X (e :: es) t)
    (hbase : attributeBase o name X.env (eval o X.env) = eval o X.env := by rfl)
    (hfew : ((backTo cpos (starEach (e :: es) X.env)).all (fun x => !x.1) && (backToKw cpos (keywordEach [] X.env)).all (fun x => x.1.isSome)
      && decide ((e :: es).length + ([] : List Keyword).length + (if ([] : List Keyword).isEmpty then 0 else 1) < 30)) = true := by rfl)
    (hline : (apos.endLine == cpos.line) = true := by rfl) (hs : starEach (e :: es) X.env = (false, eval e X.env) :: starEach es X.env := by rfl) (hplain : (backTo cpos (starEach es X.env)).any (·.1) = false := by rfl) :
    PE X (.Call (.Attribute o name apos) (e :: es) [] cpos) (tBM X.K T r to t) := by
  intro pins s σ H Q I h
  refine wpAny_Call_method_late hbase hfew hline rfl (thn (ho pins s σ H _ I h) fun v s1 ⟨x, H1, I1, r1, ty, q1⟩ => ?_)
  obtain ⟨h1, h2⟩ := tyV_is I1 r1 ty
  refine ⟨T, id, pa, slot, hty, h1, h2, ?_⟩
  have hA := ha cpos pins s1 σ H1 _ I1 q1
  rw [hs] at hA ⊢
  refine Calls.callWith_builtin (by show (false || (backTo cpos (starEach es X.env)).any (·.1)) = false; rw [hplain] <;> rfl) (Calls.evalArgs_plain ?_)
  exact thn hA fun us s2 ⟨vs, H2, I2, r2, q2⟩ => hm pins s2 σ H2 x vs v us Q I2 r1 r2 q2
/- xs.append(e), list.index on a module's tuple .. are MtR facts of 06m -/
end
end L2

namespace L2
open PySem PySem.Spec PyProof.Rows

def MtM (X : Cx) (id : String) (r : V → List V → Hp → VK → Prop) : Prop :=
  ∀ (pins : List (Addr × Obj)) (s : Shared) (σ : St) (H : Hp) (x : V) (xs : List V) (v : Value) (us : List Value) (Q : VK), Inv X pins σ H s → RelV x v → Vals xs us → r x xs H Q →
    wpAny (model X.prog X.w) X.A (call (.builtin id) (v :: us)) (EP X pins σ Q) X.xe s

/-! ### lists of values -/
theorem Vals.one : ∀ {x : V} {us : List Value}, Vals [x] us → ∃ u, us = [u] ∧ RelV x u
  | _, _, .cons r .nil => ⟨_, rfl, r⟩
theorem Vals.two : ∀ {x y : V} {us : List Value}, Vals [x, y] us → ∃ u v, us = [u, v] ∧ RelV x u ∧ RelV y v
  | _, _, _, .cons r (.cons q .nil) => ⟨_, _, rfl, r, q⟩
theorem Vals.zero : ∀ {us : List Value}, Vals [] us → us = []
  | _, .nil => rfl
theorem Vals.dropLast {xs : List V} {us : List Value} (h : Vals xs us) : Vals xs.dropLast us.dropLast := by
  induction h with
  | nil => exact .nil
  | cons r t ih =>
    cases t with
    | nil => exact .nil
    | cons q t' => exact .cons r ih
theorem Vals.reverse {xs : List V} {us : List Value} (h : Vals xs us) : Vals xs.reverse us.reverse := by
  induction h with
  | nil => exact .nil
  | cons r t ih => rw [List.reverse_cons, List.reverse_cons]; exact Vals.append ih (.cons r .nil)
theorem Vals.rep {xs : List V} {us : List Value} (h : Vals xs us) : ∀ k : Nat, Vals (List.replicate k xs).flatten (List.replicate k us).flatten
  | 0 => .nil
  | k + 1 => by
    rw [List.replicate_succ, List.replicate_succ, List.flatten_cons, List.flatten_cons]
    exact Vals.append h (Vals.rep h k)
section
variable {X : Cx} {pins : List (Addr × Obj)} {σ : St} {H : Hp} {s : Shared} {l b : Addr} {xs ys zs : List V}

/-! ### the two steps: a tracked list is rewritten, a new list is laid -/
theorem Inv.lset {its its' : List Value} {n : Nat} {f : Array Value → Array Value} {t' : Nat} (I : Inv X pins σ H s) (hH : H l = some (.lst xs))
    (e : s.heap.get? l = some { cls := .type "list", data := .seq its.toArray n }) (hf : f its.toArray = its'.toArray) (hv : Vals ys its') (hz : ys.length ≤ sizeLine) :
    Inv X pins σ (upd H l (.lst ys)) { s with heap := s.heap.update l (Obj.mapSeq f), toks := t' } := by
  have q := PySem.IsL.update e f
  rw [hf] at q
  refine I.write (x := l) (e := l) (by rw [hH]; exact trivial) (.inl rfl) (fun b' u hb hu => (Heap.get?_update_other s.heap (Obj.mapSeq f) (Ne.symm hb)).trans hu) ⟨_, q⟩ ?_
  exact ⟨hz, its', _, hv, q⟩
theorem Inv.lnew {its : List Value} {t' : Nat} (I : Inv X pins σ H s) (hv : Vals ys its) (hz : ys.length ≤ sizeLine) :
    Inv X pins σ (upd H s.heap.objs.size (.lst ys)) { s with heap := s.heap.push { cls := .type "list", data := .seq its.toArray }, toks := t' } :=
  I.laid (fun _ _ q => Heap.get?_push_of_some _ q) (Nat.le_refl _) ⟨hz, its, 0, hv, Heap.get?_push_size _ rfl⟩
theorem Inv.fresh (I : Inv X pins σ H s) : H s.heap.objs.size = none := I.hok.fresh (Nat.le_refl _)
theorem Inv.lstM (I : Inv X pins σ H s) (hH : H l = some (.lst xs)) : xs.length ≤ sizeLine ∧ ∃ (its : List Value) (n : Nat), Vals xs its ∧ xs.length = its.length ∧ s.heap.get? l = some { cls := .type "list", data := .seq its.toArray n } := by
  obtain ⟨z, its, n, r, e⟩ := I.hok l _ hH
  exact ⟨z, its, n, r, r.length, e⟩

end

section
variable {X : Cx}

/-! ### methods -/
def rAppend : V → List V → Hp → VK → Prop := fun x vs H Q => ∃ l xs y, x = .ref l ∧ vs = [y] ∧ H l = some (.lst xs) ∧ xs.length < sizeLine ∧ Q .non (upd H l (.lst (xs ++ [y])))
theorem mt_append : MtM X "list.append" rAppend := by
  intro pins s σ H x vs v us Q I rx rv h
  obtain ⟨l, xs, y, rfl, rfl, hH, hz, q⟩ := h
  cases rx
  obtain ⟨u, rfl, ru⟩ := rv.one
  obtain ⟨z, its, n, r, hl, e⟩ := I.lstM hH
  refine call_meets F.slot_list_append ⟨_, e, rfl⟩ F.entry_list_append (F.args_list_append_2 _ _) (PySem.list_append l its.toArray n u (by rw [List.size_toArray]; omega)) ⟨e, ?_⟩
  refine ⟨.non, _, I.lset (its' := its ++ [u]) hH e (by simp) (r.append (.cons ru .nil)) ?_, rfl, q⟩
  rw [List.length_append, List.length_singleton]
  omega

/-! ### list + list, list += list, list * int -/
def rCat : R2 := fun x y H Q => ∃ l b xs zs, x = .ref l ∧ y = .ref b ∧ H l = some (.lst xs) ∧ H b = some (.lst zs) ∧ xs.length + zs.length ≤ sizeLine ∧ ∀ p, H p = none → Q (.ref p) (upd H p (.lst (xs ++ zs)))
theorem op_cat : OpR X (binaryOp .Add) rCat := by
  intro pins s σ H x y v u Q I rx ry h
  obtain ⟨l, b, xs, zs, rfl, rfl, hH, hB, hz, q⟩ := h
  cases rx
  cases ry
  obtain ⟨z, its, n, r, hl, e⟩ := I.lstM hH
  obtain ⟨z2, its2, n2, r2, hl2, e2⟩ := I.lstM hB
  refine PySem.P.add_list e e2 ?_ (by rw [List.size_toArray, List.size_toArray]; omega)
  have ea : its.toArray ++ its2.toArray = (its ++ its2).toArray := by simp
  rw [ea]
  exact ⟨.ref _, _, I.lnew (t' := s.toks) (r.append r2) (by rw [List.length_append]; omega), rfl, q _ I.fresh⟩
/-! ### del xs[i] -/
end

/-! ### xs[a:b] = ys -/
section
variable {prog : Program} {w : World} {A : Around} {E : Value → Shared → Prop} {s : Shared}
end

section
variable {X : Cx}
end
end L2

namespace Att
open PySem PySem.W PySem.Calls PyProof.Rows

/-! ### the script -/
theorem ints_of_wellAll {P : Params} {h : Heap} : ∀ (ns : List Int) (vs : List Value), WellAll P h vs (ns.map WData.int) → IntsAre vs ns := by
  intro ns
  induction ns with
  | nil =>
    intro vs w
    rw [List.map_nil] at w
    cases w
    exact .nil
  | cons n ns ih =>
    intro vs w
    rw [List.map_cons] at w
    cases w with
    | cons a b =>
      cases a
      exact .cons _ _ (ih _ b)

theorem script_of {l : OpenLaw} {n : Nat} (hn : l.most = some n) {P : Params} {h : Heap} {args : List WData} {vals : List Value}
    (hpre : l.row.toRowW.claim.pre args = true) (hwl : WellAll P h vals args) :
    ∃ a vs ns, vals = [Value.ref a] ∧ args = [WData.list (ns.map WData.int)] ∧ h.get? a = some { cls := .type "list", data := .seq vs.toArray } ∧ IntsAre vs ns ∧ ns.length ≤ n := by
  have hsh : WShape.hasAll [] args [.list .int] = true := (pre_splitW hpre).1
  have hc : l.pre.holds [] { args := args } = true := (pre_splitW hpre).2
  obtain ⟨d, r, rfl, h1, h2⟩ := hasAllW_cons hsh
  obtain rfl := hasAllW_nil h2
  obtain ⟨xs, rfl, h3⟩ := hasW_list h1
  obtain ⟨ns, rfl⟩ := items_int h3
  have hlen : ns.length ≤ n := by
    unfold OpenLaw.pre at hc
    have h4 : (WTm.not (.lt (.lit (.int (n : Int))) (.len (.arg 0)))).holds [] { args := [.list (ns.map .int)] } = true := by
      have h4 := (holds_andW hc).1
      rw [hn] at h4
      exact h4
    have h5 := condW_of h4 (w_not (w_lt w_lit (w_len_list (w_arg rfl))))
    rw [List.length_map] at h5
    refine Nat.le_of_not_lt fun q => ?_
    have q' : (n : Int) < ((ns.length : Nat) : Int) := by omega
    first
      | (rw [decide_eq_true q'] at h5; exact absurd h5 (by decide))
      | (simp at h5; omega)
  cases hwl with
  | cons w1 w2 =>
    cases w2
    cases w1 with
    | list ho hall => exact ⟨_, _, ns, rfl, rfl, ho, ints_of_wellAll ns _ hall, hlen⟩

theorem post_true (l : OpenLaw) (args : List WData) : l.row.toRowW.claim.post args (.bool true) args = true :=
  postW_of (r := l.row.toRowW) (X := (true == true))
    (show WShape.has [] (.bool true) .bool = true by first | rfl | decide | simp [WShape.has, WShape.arms, WShape.armsAll])
    (show (WTm.eq .res (.lit (.bool true))).value [] { args := args, res := some (.bool true), after := args } = some (.bool (true == true)) from w_eq_bool (w_res rfl) w_lit) rfl

/-! ### the attachment: holds_open's last premise (the goal 'hc' behind k_head) from a wpAny of the law's body -/
/-- the same from a codeAny of the CALL (for a layer whose function contracts speak of calls) -/
theorem attach_call {l : OpenLaw} {n : Nat} {q : Program} {loose : List Str} {XP : (Str → Option Value) → Heap → Prop} {YP : World → Heap → Prop} {d : DefRec}
    (hn : l.most = some n) (hdf : d.params.defaults = [])
    (call : ∀ (w : World) (s₀ s₁ : Shared) (mg mb : Str → Option Value) (fa : Addr) (o : Obj) (pm cd doc : Value) (a : Addr) (vs : List Value) (ns : List Int),
      Ground q loose [] XP w s₀ mg mb s₁.heap → YP w s₁.heap →
      s₁.heap.get? fa = some o → o.data = .func (docDef d.name d.params d.body d.scope pm cd doc) → s₁.heap.CodeRec cd d.name → mg d.name = some (.ref fa) →
      s₁.heap.get? a = some { cls := .type "list", data := .seq vs.toArray } → IntsAre vs ns → ns.length ≤ n → s₁.gens = #[] →
      codeAny (model l.prog w) callerA (.call (.ref fa) ⟨[.ref a], []⟩) (fun r s' => r = .ok (.ret (.bool true)) ∧ OldK s₁.heap s'.heap ∧ s'.os = s₁.os ∧ AllBare s'.gens) s₁) :
    WalkO q loose XP YP l.row.toRowW d [] (fun f vs => PySem.call f vs) := by
  intro w s₀ s₁ mg mb G Y fa o pm cd doc dV kV ho hd hcd hD hmg hg args vals as hpre hlay hrd hwl hlo
  obtain rfl : dV = .none := Dflts.none hD hdf
  obtain rfl : kV = .none := Dflts.noKw hD
  obtain ⟨a, vs, ns, rfl, rfl, hobj, hints, hlen⟩ := script_of hn hpre hwl
  refine enter_call (codeAny_mono (call w s₀ s₁ mg mb fa o pm cd doc a vs ns G Y ho (fd_plain hd) hcd hmg hobj hints hlen hg) fun r s' hq => ?_)
  obtain ⟨rfl, h2, h3, h4⟩ := hq
  exact ⟨.inl ⟨.bool true, .bool true, [], rfl, fun _ => rfl, .bool true, post_true l _, fun _ => ⟨List.Pairwise.nil, fun _ hm => (nomatch hm)⟩⟩, h2, h3, h4⟩

/-! ### rules over ANY heap (no ledger) from facts about the written part K: the library's own take a ledger (News) for what they write -/
section
variable {prog : Program} {w : World} {A : Around} {E : Value → Shared → Prop} {s : Shared} {K : Frag}

/-! the whole heap as the ledger: makes every rule that writes through a ledger a rule over any heap -/
def ledger (h : Heap) (L d : Addr) : List (Addr × Obj) := (List.range h.objs.size).filterMap fun a => if a = L ∨ a = d then none else (h.get? a).map fun o => (a, o)
end
end Att

namespace L2
open PySem PySem.Spec PyProof.Rows

theorem vals_ints : ∀ {vs : List Value} {ns : List Int}, IntsAre vs ns → Vals (ns.map V.int) vs
  | _, _, .nil => .nil
  | _, _, .cons n t h => .cons ⟨t, rfl⟩ (vals_ints h)

/-- nothing is tracked but the script, known to the object (or it is an object of the module) -/
def Only (H : Hp) : Prop := ∀ b, H b = none ∨ ∃ o xs, H b = some (.frz o (.lst xs))

/-- THE HEAD: the law's promise, at the heap behind the top. F, the promise of the law's def, may use that base is part of the heap (so K.In base, base.Ns mainGlobals mg stand in Mod) -/
theorem law_call {P : Program} {w : World} {K : PySem.W.Frag} {mg mb : Str → Option Value} {CX : CXT} {k : Nat} {fa a : Addr} {fd : FuncData} {x : Str} {sp : Sp} {s₁ : Shared} {vs : List Value} {ns : List Int}
    (KX : K.In s₁.heap) (hns : s₁.heap.Ns mainGlobals mg) (hb : s₁.heap.Ns builtinsNs mb) (hbb : ∀ x : Str, x ≠ "__name__" → mb x = bootBuiltins x) (hlim : s₁.heap.NoLimit) (hg : s₁.gens = #[])
    (ha : s₁.heap.get? a = some { cls := .type "list", data := .seq vs.toArray }) (hi : IntsAre vs ns) (hl : ns.length ≤ sizeLine) (hr : Room k callerA)
    (F : ∀ base : Heap, K.In base → base.Ns mainGlobals mg → FnOk P w K mg base CX k fa fd [x] sp) (hbind : ∀ (s : Shared) (u : Value), BindsTo s fd ⟨[u], []⟩ [(x, u)])
    (hsp : ∀ H : Hp, Only H → SqL K H a (ns.map V.int) → sp [.ref a] H (fun v _ => v = .bl true) fun _ _ _ => False)
    (hCX : ∀ H e s', CX [] H s₁ (fun _ _ _ => False) e s' → False) :
    codeAny (model P w) callerA (.call (.ref fa) ⟨[.ref a], []⟩) (fun r s' => r = .ok (.ret (.bool true)) ∧ OldK s₁.heap s'.heap ∧ s'.os = s₁.os ∧ AllBare s'.gens) s₁ := by
  have rv := vals_ints hi
  have lenV := hi.length
  -- from an abstract heap in which nothing but the script may be tracked
  have core : ∀ H : Hp, Only H → SqL K H a (ns.map V.int) → HOk P w H s₁.heap → (∀ b, H b ≠ none → b = a) → (H a ≠ none → K.lookup a = none) →
      codeAny (model P w) callerA (.call (.ref fa) ⟨[.ref a], []⟩) (fun r s' => r = .ok (.ret (.bool true)) ∧ OldK s₁.heap s'.heap ∧ s'.os = s₁.os ∧ AllBare s'.gens) s₁ := by
    intro H hO hS hok hA hK
    have base_of : ∀ {b : Addr} {o : Obj}, s₁.heap.get? b = some o → H b = none → (hidT s₁.heap H).get? b = some o := fun e n => hidT_get e n
    have noA : ∀ {b : Addr} {o : Obj} {es : Array DictEntry} {ep : Nat}, s₁.heap.get? b = some o → o.data = .dict es ep → H b = none := fun {b o es ep} e d => by
      cases q : H b with
      | none => rfl
      | some u =>
        have e' : b = a := hA b (by rw [q]; simp)
        subst e'
        rw [ha] at e; cases e
        have d' : Data.seq vs.toArray _ = Data.dict es ep := d
        cases d'
    have nsK : ∀ {b : Addr} {m : Str → Option Value}, s₁.heap.Ns b m → (hidT s₁.heap H).Ns b m := fun {b m} ⟨o, es, ep, e, d, r⟩ => ⟨o, es, ep, base_of e (noA e d), d, r⟩
    have hKb : K.In (hidT s₁.heap H) := fun b o e => base_of (KX b o e) (by
      cases q : H b with
      | none => rfl
      | some u =>
        have e' : b = a := hA b (by rw [q]; simp)
        subst e'
        rw [hK (by rw [q]; simp)] at e; cases e)
    have hM : Mod K mg (hidT s₁.heap H) := ⟨hKb, nsK hns, ⟨mb, nsK hb, hbb⟩, let ⟨mc, h1, h2⟩ := hlim; ⟨mc, nsK h1, h2⟩⟩
    have e0 : Env0 P w K mg (hidT s₁.heap H) callerA [] s₁ H := ⟨rfl, hM, fun b o e => of_hidT e, Nat.le_of_eq (hidT_size _ _), trivial, fun b hb => absurd (show b ∈ ([] : List Addr) from hb) (by simp), hok, .of_eq hg⟩
    refine codeAny_mono ((F _ hKb (nsK hns)).run callerA [] s₁ H ⟨[.ref a], []⟩ [.ref a] [.ref a] _ _ hr e0 (hbind s₁ (.ref a)) (.cons rfl .nil) (hsp H hO hS)) fun r s' h => ?_
    cases r with
    | error e => exact (hCX H e s' h).elim
    | ok fl =>
      cases fl with
      | next => exact False.elim h
      | brk => exact False.elim h
      | cont => exact False.elim h
      | ret u =>
        obtain ⟨v, H', os, bare, un, hok', r', q⟩ := h
        have q' : v = .bl true := q
        subst q'
        obtain rfl : u = Value.bool true := r'
        refine ⟨rfl, OldK.of_keep fun b o e => ?_, os, bare⟩
        cases q : H b with
        | none => exact un.keep b o e q (by intro z; exact absurd (show b ∈ ([] : List Addr) from z) (by simp)) (by simp)
        | some u =>
          rcases hO b with z | ⟨ob, xs, z⟩
          · rw [q] at z; cases z
          · have z2 := un.frzs b ob _ z
            obtain ⟨e1, _⟩ := hok b _ z
            obtain ⟨e2, _⟩ := hok' b _ z2
            rw [e] at e1; cases e1
            exact e2
  cases hk : K.lookup a with
  | some o =>
    -- the script is one of the module's own objects
    have e := KX a o hk
    rw [ha] at e
    cases e
    refine core (fun _ => none) (fun _ => .inl rfl) (.inr ⟨_, vs.toArray, _, hk, rfl, rfl, rfl, by rw [List.size_toArray, lenV]; exact hl, by simpa using rv⟩) (fun b u z => by have z' : (none : Option HO) = some u := z; cases z') (fun b z => absurd rfl z) fun z => absurd rfl z
  | none =>
    refine core (fun b => if b = a then some (.frz { cls := .type "list", data := .seq vs.toArray } (.lst (ns.map V.int))) else none) (fun b => ?_) (.inl (.inr ⟨{ cls := .type "list", data := .seq vs.toArray }, if_pos rfl⟩)) (fun b u z => ?_) (fun b z => ?_) fun _ => hk
    · by_cases hb : b = a
      · exact .inr ⟨_, _, if_pos hb⟩
      · exact .inl (if_neg hb)
    · by_cases hb : b = a
      · have z' := (if_pos hb).symm.trans z
        cases z'
        subst hb
        exact ⟨ha, by rw [List.length_map]; exact hl, vs, _, rv, ha⟩
      · have z' := (if_neg hb).symm.trans z
        cases z'
    · by_cases hb : b = a
      · exact hb
      · exact absurd (if_neg hb) z
end L2

namespace L2
open PySem PySem.Spec PyProof.Rows

/-- the goal that k_head leaves (case hc), from the law's promise. F gives the function object fd (K's own) once, then the promise over every base -/
theorem walk_of {l : PySem.W.OpenLaw} {n k : Nat} {q : Program} {loose : List Str} {XP : (Str → Option Value) → Heap → Prop} {YP : World → Heap → Prop} {d : DefRec} {K : Params → PySem.W.Frag} {CX : World → CXT} {sp : World → Sp} {x : Str}
    (hn : l.most = some n) (hn2 : n ≤ sizeLine) (hdf : d.params.defaults = []) (hr : Room k callerA)
    (hY : ∀ (w : World) (h : Heap), YP w h → (K w.params).In h)
    (F : ∀ (w : World) (mg : Str → Option Value) (fa : Addr) (h : Heap), (K w.params).In h → h.Ns mainGlobals mg → mg d.name = some (.ref fa) →
      ∃ fd : FuncData, (∀ (s : Shared) (u : Value), BindsTo s fd ⟨[u], []⟩ [(x, u)]) ∧
        ∀ base : Heap, (K w.params).In base → base.Ns mainGlobals mg → FnOk l.prog w (K w.params) mg base (CX w) k fa fd [x] (sp w))
    (hsp : ∀ (w : World) (H : Hp) (a : Addr) (ns : List Int), ns.length ≤ n → Only H → SqL (K w.params) H a (ns.map V.int) → sp w [.ref a] H (fun v _ => v = .bl true) fun _ _ _ => False)
    (hCX : ∀ (w : World) (H : Hp) (s : Shared) (e : Value) (s' : Shared), CX w [] H s (fun _ _ _ => False) e s' → False) :
    PySem.W.WalkO q loose XP YP l.row.toRowW d [] (fun f vs => PySem.call f vs) := by
  refine Att.attach_call hn hdf fun w s₀ s₁ mg mb fa o pm cd doc a vs ns G Y ho hd hcd hmg hobj hints hlen hg => ?_
  have KX := hY w _ Y
  obtain ⟨fd, hb, hF⟩ := F w mg fa _ KX G.T.g hmg
  exact law_call KX G.T.g G.T.b G.T.builtins G.T.nolimit hg hobj hints (Nat.le_trans hlen hn2) hr hF hb (fun H hO hS => hsp w H a ns hlen hO hS) fun H e s' => hCX w H s₁ e s'
/-- the same where the promise hangs on the written part alone: (sp := My.sp_law), no hole under a binder -/
theorem walk_ofK {l : PySem.W.OpenLaw} {n k : Nat} {q : Program} {loose : List Str} {XP : (Str → Option Value) → Heap → Prop} {YP : World → Heap → Prop} {d : DefRec} {K : Params → PySem.W.Frag} {CX : CXT} {sp : PySem.W.Frag → Sp} {x : Str}
    (hn : l.most = some n) (hn2 : n ≤ sizeLine) (hdf : d.params.defaults = []) (hr : Room k callerA)
    (hY : ∀ (w : World) (h : Heap), YP w h → (K w.params).In h)
    (F : ∀ (w : World) (mg : Str → Option Value) (fa : Addr) (h : Heap), (K w.params).In h → h.Ns mainGlobals mg → mg d.name = some (.ref fa) →
      ∃ fd : FuncData, (∀ (s : Shared) (u : Value), BindsTo s fd ⟨[u], []⟩ [(x, u)]) ∧
        ∀ base : Heap, (K w.params).In base → base.Ns mainGlobals mg → FnOk l.prog w (K w.params) mg base CX k fa fd [x] (sp (K w.params)))
    (hsp : ∀ (K : PySem.W.Frag) (H : Hp) (a : Addr) (ns : List Int), ns.length ≤ n → Only H → SqL K H a (ns.map V.int) → sp K [.ref a] H (fun v _ => v = .bl true) fun _ _ _ => False)
    (hCX : ∀ (H : Hp) (s : Shared) (e : Value) (s' : Shared), CX [] H s (fun _ _ _ => False) e s' → False) :
    PySem.W.WalkO q loose XP YP l.row.toRowW d [] (fun f vs => PySem.call f vs) :=
  walk_of (K := K) (CX := fun _ => CX) (sp := fun w => sp (K w.params)) hn hn2 hdf hr hY F (fun w H a ns h1 h2 h3 => hsp (K w.params) H a ns h1 h2 h3) fun _ H s e s' => hCX H s e s'
end L2


/-! SHORT WORDS over the layer: a def of the text, its body, what a loop and a test want. -/
namespace L2
open PySem PySem.Spec PyProof.Rows

/-! ### the text by places -/
def defArgs (s : Stmt) : Arguments := match s with
  | .FunctionDef _ a _ _ _ _ _ _ _ _ => a
  | _ => { posonlyargs := [], args := [], vararg := none, kwonlyargs := [], kw_defaults := [], kwarg := none, defaults := [] }
def defBody (s : Stmt) : List Stmt := match s with
  | .FunctionDef _ _ b _ _ _ _ _ _ _ => b
  | _ => []
def defScope (s : Stmt) : Scope := match s with
  | .FunctionDef _ _ _ _ _ _ sc _ _ _ => sc
  | _ => { kind := .function, names := [], isGenerator := false, isCoroutine := false }

/-! ### no exception leaves a def -/
abbrev CX0 : CXT := fun _ _ _ _ _ _ => False
abbrev E0 : XK := fun _ _ _ => False
theorem pass0 {X : Cx} : Passes CX0 X E0 := fun _ _ _ _ _ _ _ h => h.elim

/-! ### a def (or method) of the text as it stands behind the top -/
structure Fun (K : PySem.W.Frag) (x qual : Str) (st : Stmt) (f : Addr) (fd : FuncData) : Prop where
  ex : ∃ (oc : Value) (od : Option Addr) (kV doc pm : Value) (an : Option Addr) (cdv ct : Value) (osl : Array (Option Value)),
    fd = PySem.W.fnOf x qual (defArgs st) (defBody st) (defScope st) .none kV doc pm an cdv ct ∧ K.lookup f = some ⟨oc, od, .func fd, osl⟩ ∧ PySem.W.codeIn K cdv qual = true
  kp : PySem.W.keepIn K (.ref f) = true
section
variable {P : Program} {w : World} {K : PySem.W.Frag} {mg : Str → Option Value} {base : Heap}
/-- THE RULE for a def: its body as a term of rules, and the reading of that term -/
theorem Fun.ok {x qual : Str} {st : Stmt} {f : Addr} {fd : FuncData} {N ps : List Str} {k : Nat} {sp : Sp} (F : Fun K x qual st f fd) (S : FnScope N ps (defScope st)) (len : ∀ vs H Q E, sp vs H Q E → vs.length = ps.length)
    (hbody : ∀ (cdv : Value) (A : Around) (outer : List Env) (s : Shared) (H : Hp) (vs : List V) (Q : VK) (E : XK), Room k (A.deeper (envOfC qual (defScope st) s.heap.objs.size f cdv)) → sp vs H Q E →
      ∃ t, PSs (cxOf CX0 P w K mg base N qual (defScope st) f cdv A outer s H E).nox (defBody st) t ∧ t { nx := fun _ H' => Q .non H', rt := Q } (start N vs) H) : FnOk P w K mg base CX0 (k + 1) f fd ps sp := by
  obtain ⟨oc, od, kV, doc, pm, an, cdv, ct, osl, rfl, lk, hcd⟩ := F.ex
  refine fn_of lk hcd S len fun A outer s H vs Q E hr hsp => ?_
  obtain ⟨t, h, q⟩ := hbody cdv A outer s H vs Q E hr hsp
  exact ⟨t, h.nox, q⟩
/-- how its arguments bind (no defaults): h is «fun _ _ _ _ _ _ us hl => match us, hl with | [_, _], _ => rfl», one _ a parameter -/
theorem Fun.binds {x qual : Str} {st : Stmt} {f : Addr} {fd : FuncData} {ps : List Str} (F : Fun K x qual st f fd)
    (h : ∀ (kV doc pm : Value) (an : Option Addr) (cdv ct : Value) (us : List Value), us.length = ps.length → bindArgs (PySem.W.fnOf x qual (defArgs st) (defBody st) (defScope st) .none kV doc pm an cdv ct) ⟨us, []⟩ = pure (ps.zip us)) : Binds K fd ps [] := by
  obtain ⟨oc, od, kV, doc, pm, an, cdv, ct, osl, rfl, lk, hcd⟩ := F.ex
  exact .all (h kV doc pm an cdv ct)
theorem fun_mk {x qual : Str} {st : Stmt} {f : Addr} {oc : Value} {od an : Option Addr} {osl : Array (Option Value)} {kV doc pm cdv ct : Value} (l : K.lookup f = some ⟨oc, od, .func (PySem.W.fnOf x qual (defArgs st) (defBody st) (defScope st) .none kV doc pm an cdv ct), osl⟩)
    (c : PySem.W.codeIn K cdv qual = true) (k : PySem.W.keepIn K (.ref f) = true) : Fun K x qual st f (PySem.W.fnOf x qual (defArgs st) (defBody st) (defScope st) .none kV doc pm an cdv ct) := ⟨⟨oc, od, kV, doc, pm, an, cdv, ct, osl, rfl, l, c⟩, k⟩
end
theorem small1000 {n : Nat} (h : n ≤ 1000) : n < sizeLine := Nat.lt_of_le_of_lt h (by decide)

/-! ### expressions in short: the name that stands in the i-th slot -/
section
variable {X : Cx}
theorem pv (i : Nat) {x : Str} {pos : Pos} (hN : X.N[i]? = some x := by rfl) (hv : Vis X.env.scope x := by first | exact Or.inl rfl | exact Or.inr (Or.inl rfl) | exact Or.inr (Or.inr rfl)) (hd : (x == ("__debug__" : Str)) = false := by decide)
    (hcd : (x == ("__classdict__" : Str)) = false := by decide) : PE X (.Name x pos) (tVar i) := pe_var hN hv hd hcd
end

/-! ### tests -/
/-! ### heaps -/
/-- all that was tracked is as it was -/
def Same (H H' : Hp) : Prop := ∀ b o, H b = some o → H' b = some o
theorem Same.refl (H : Hp) : Same H H := fun _ _ h => h
theorem Same.trans {H H1 H2 : Hp} (a : Same H H1) (b : Same H1 H2) : Same H H2 := fun c o h => b c o (a c o h)
theorem Same.free {H H' : Hp} (e : Same H H') {l : Addr} (h : H' l = Option.none) : H l = Option.none := by
  cases q : H l with
  | none => rfl
  | some o =>
    rw [e l o q] at h
    cases h
theorem Same.seq {K : PySem.W.Frag} {H H' : Hp} {a : Addr} {xs : List V} (e : Same H H') (h : SqL K H a xs) : SqL K H' a xs := by
  rcases h with (h | ⟨o, h⟩) | h
  · exact .inl (.inl (e _ _ h))
  · exact .inl (.inr ⟨o, e _ _ h⟩)
  · exact .inr h

end L2
namespace L2
open PySem PySem.Spec PyProof.Rows

/-! ### lists of pairs as tables -/
section
variable {κ : Type} [DecidableEq κ]
def valV (kvs : List (κ × V)) (k : κ) : Option V := (kvs.find? fun kv => decide (kv.1 = k)).map (·.2)
/-- in its place, or at the end -/
def putK (kvs : List (κ × V)) (k : κ) (v : V) : List (κ × V) :=
  if (kvs.any fun kv => decide (kv.1 = k)) = true then kvs.map (fun kv => if kv.1 = k then (kv.1, v) else kv) else kvs ++ [(k, v)]
def dropK (kvs : List (κ × V)) (k : κ) : List (κ × V) := kvs.filter fun kv => decide (kv.1 ≠ k)

theorem valV_pos {p : κ × V} {r : List (κ × V)} {k : κ} (e : p.1 = k) : valV (p :: r) k = some p.2 := by simp [valV, List.find?_cons, e]
theorem valV_neg {p : κ × V} {r : List (κ × V)} {k : κ} (e : ¬ p.1 = k) : valV (p :: r) k = valV r k := by simp [valV, List.find?_cons, e]
theorem valV_any (k : κ) : ∀ kvs : List (κ × V), (kvs.any fun kv => decide (kv.1 = k)) = (valV kvs k).isSome
  | [] => rfl
  | p :: r => by
    rw [List.any_cons]
    by_cases e : p.1 = k
    · simp only [valV_pos e, decide_eq_true e, Bool.true_or, Option.isSome_some]
    · rw [valV_neg e, decide_eq_false e, Bool.false_or]; exact valV_any k r
theorem RelO.isSome_eq {o : Option V} {u : Option Value} (r : RelO o u) : o.isSome = u.isSome := by
  cases o with
  | none => cases u with
    | none => rfl
    | some _ => exact (show False from r).elim
  | some _ => cases u with
    | none => exact (show False from r).elim
    | some _ => rfl
theorem RelO.getD {o : Option V} {u : Option Value} {d : V} {d' : Value} (r : RelO o u) (rd : RelV d d') : RelV (o.getD d) (u.getD d') := by
  cases o with
  | none => cases u with
    | none => exact rd
    | some _ => exact (show False from r).elim
  | some _ => cases u with
    | none => exact (show False from r).elim
    | some _ => exact r

/-- raw tables of the same keys -/
theorem KV.val {kvs : List (κ × V)} {vs : List (κ × Value)} (r : KV kvs vs) (k : κ) : RelO (valV kvs k) (valueAt vs k) := by
  unfold KV at r
  induction r with
  | nil => exact True.intro
  | @cons p q ps qs h t ih =>
    obtain ⟨h1, h2⟩ := h
    by_cases e : p.1 = k
    · have e' : q.1 = k := h1.symm.trans e
      have b : valueAt (q :: qs) k = some q.2 := by simp [valueAt, List.find?_cons, e']
      rw [valV_pos e, b]; exact h2
    · have e' : ¬ q.1 = k := fun z => e (h1.trans z)
      have b : valueAt (q :: qs) k = valueAt qs k := by simp [valueAt, List.find?_cons, e']
      rw [valV_neg e, b]; exact ih
theorem KV.any {kvs : List (κ × V)} {vs : List (κ × Value)} (r : KV kvs vs) (k : κ) : (kvs.any fun kv => decide (kv.1 = k)) = vs.any fun kv => decide (kv.1 = k) := by
  unfold KV at r
  induction r with
  | nil => rfl
  | cons h t ih => rw [List.any_cons, List.any_cons, ih, h.1]
theorem KV.repl {kvs : List (κ × V)} {vs : List (κ × Value)} (r : KV kvs vs) (k : κ) {y : V} {u : Value} (ry : RelV y u) :
    KV (kvs.map fun kv => if kv.1 = k then (kv.1, y) else kv) (vs.map fun kv => if kv.1 = k then (kv.1, u) else kv) := by
  unfold KV at r ⊢
  induction r with
  | nil => exact .nil
  | @cons p q ps qs h t ih =>
    rw [List.map_cons, List.map_cons]
    refine .cons ?_ ih
    obtain ⟨h1, h2⟩ := h
    by_cases e : p.1 = k
    · rw [if_pos e, if_pos (h1.symm.trans e)]; exact ⟨h1, ry⟩
    · rw [if_neg e, if_neg (fun z => e (h1.trans z))]; exact ⟨h1, h2⟩
theorem KV.put {kvs : List (κ × V)} {vs : List (κ × Value)} (r : KV kvs vs) (k : κ) {y : V} {u : Value} (ry : RelV y u) : KV (putK kvs k y) (stored vs k u) := by
  unfold putK stored
  rw [r.any k]
  by_cases e : (vs.any fun kv => decide (kv.1 = k)) = true
  · rw [if_pos e, if_pos e]; exact r.repl k ry
  · rw [if_neg e, if_neg e]; exact Paired.snoc r ⟨rfl, ry⟩
theorem KV.drop {kvs : List (κ × V)} {vs : List (κ × Value)} (r : KV kvs vs) (k : κ) : KV (dropK kvs k) (without vs k) := by
  unfold KV at r ⊢
  unfold dropK without
  induction r with
  | nil => exact .nil
  | @cons p q ps qs h t ih =>
    obtain ⟨h1, h2⟩ := h
    rw [List.filter_cons, List.filter_cons]
    by_cases e : p.1 = k
    · have a : ¬ decide (p.1 ≠ k) = true := by simp [e]
      have b : ¬ decide (q.1 ≠ k) = true := by simp [h1.symm.trans e]
      rw [if_neg a, if_neg b]; exact ih
    · have e' : ¬ q.1 = k := fun z => e (h1.trans z)
      have a : decide (p.1 ≠ k) = true := by simp [e]
      have b : decide (q.1 ≠ k) = true := by simp [e']
      rw [if_pos a, if_pos b]; exact .cons ⟨h1, h2⟩ ih
theorem KV.keys {kvs : List (κ × V)} {vs : List (κ × Value)} (r : KV kvs vs) : kvs.map (·.1) = vs.map (·.1) := by
  unfold KV at r
  induction r with
  | nil => rfl
  | cons h t ih => rw [List.map_cons, List.map_cons, ih, h.1]
theorem KV.length {kvs : List (κ × V)} {vs : List (κ × Value)} (r : KV kvs vs) : kvs.length = vs.length := Paired.length r
end


/-! ### a tracked dict, its keys ints and texts or tuples of these -/
/-- raw entries of a dict with tuple keys -/
abbrev KT (H : Hp) : List (List Key × V) → List (List Key × Addr × Value) → Prop := Paired fun p q => p.1 = q.1 ∧ H q.2.1 = some (.tup (p.1.map kV)) ∧ RelV p.2 q.2.2
theorem KT.val {H : Hp} {kvs : List (List Key × V)} {xs : List (List Key × Addr × Value)} (r : KT H kvs xs) (k : List Key) : RelO (valV kvs k) ((atKey xs k).map (·.2)) := by
  induction r with
  | nil => exact True.intro
  | @cons p q ps qs h t ih =>
    obtain ⟨h1, _, h2⟩ := h
    by_cases e : p.1 = k
    · have e' : q.1 = k := h1.symm.trans e
      have b : atKey (q :: qs) k = some q.2 := by simp [atKey, List.find?_cons, e']
      rw [valV_pos e, b]; exact h2
    · have e' : ¬ q.1 = k := fun z => e (h1.trans z)
      have b : atKey (q :: qs) k = atKey qs k := by simp [atKey, List.find?_cons, e']
      rw [valV_neg e, b]; exact ih
theorem KT.repl {H : Hp} {kvs : List (List Key × V)} {xs : List (List Key × Addr × Value)} (r : KT H kvs xs) (k : List Key) {y : V} {u : Value} (ry : RelV y u) :
    KT H (kvs.map fun kv => if kv.1 = k then (kv.1, y) else kv) (xs.map (putAt k u)) := by
  induction r with
  | nil => exact .nil
  | @cons p q ps qs h t ih =>
    rw [List.map_cons, List.map_cons]
    refine .cons ?_ ih
    obtain ⟨h1, h2, h3⟩ := h
    unfold putAt
    by_cases e : p.1 = k
    · rw [if_pos e, if_pos (h1.symm.trans e)]; exact ⟨h1, h2, ry⟩
    · rw [if_neg e, if_neg (fun z => e (h1.trans z))]; exact ⟨h1, h2, h3⟩
theorem KT.put {H : Hp} {kvs : List (List Key × V)} {xs : List (List Key × Addr × Value)} (r : KT H kvs xs) (k : List Key) {b : Addr} {y : V} {u : Value} (hb : H b = some (.tup (k.map kV))) (ry : RelV y u) :
    KT H (putK kvs k y) (storedH xs k b u) := by
  have e : (kvs.any fun kv => decide (kv.1 = k)) = (atKey xs k).isSome := by
    rw [valV_any, (r.val k).isSome_eq, Option.isSome_map]
  unfold putK storedH
  rw [e]
  by_cases q : (atKey xs k).isSome = true
  · rw [if_pos q, if_pos q]; exact r.repl k ry
  · rw [if_neg q, if_neg q]; exact Paired.snoc r ⟨rfl, hb, ry⟩
theorem KT.keeps {H H' : Hp} {kvs : List (List Key × V)} {xs : List (List Key × Addr × Value)} (r : KT H kvs xs) (ht : ∀ b ys, H b = some (.tup ys) → H' b = some (.tup ys)) : KT H' kvs xs :=
  Paired.mapP r fun _ _ z => ⟨z.1, ht _ _ z.2.1, z.2.2⟩

section
variable {P : Program} {w : World} {H : Hp} {h : Heap} {a : Addr}
end

/-- what the dict at a holds at the key y -/
def DGet (H : Hp) (a : Addr) (y : V) (r : Option V) : Prop :=
  (∃ kvs k, Rd H a (.dK kvs) ∧ y = kV k ∧ r = valV kvs k) ∨ ∃ kvs k b, Rd H a (.dT kvs) ∧ y = .ref b ∧ H b = some (.tup (k.map kV)) ∧ r = valV kvs k
/-- the heap behind a[y] = v -/
def DPut (H : Hp) (a : Addr) (y v : V) (H' : Hp) : Prop :=
  (∃ kvs k, H a = some (.dK kvs) ∧ y = kV k ∧ kvs.length < sizeLine ∧ H' = upd H a (.dK (putK kvs k v))) ∨
  ∃ kvs k b, H a = some (.dT kvs) ∧ y = .ref b ∧ H b = some (.tup (k.map kV)) ∧ kvs.length < sizeLine ∧ H' = upd H a (.dT (putK kvs k v))
theorem DGet.k {H : Hp} {a : Addr} {kvs : List (Key × V)} {k : Key} (e : H a = some (.dK kvs)) : DGet H a (kV k) (valV kvs k) := .inl ⟨kvs, k, .inl e, rfl, rfl⟩
theorem DGet.t {H : Hp} {a b : Addr} {kvs : List (List Key × V)} {k : List Key} (e : H a = some (.dT kvs)) (eb : H b = some (.tup (k.map kV))) : DGet H a (.ref b) (valV kvs k) := .inr ⟨kvs, k, b, .inl e, rfl, eb, rfl⟩
theorem DPut.k {H : Hp} {a : Addr} {kvs : List (Key × V)} {k : Key} {v : V} (e : H a = some (.dK kvs)) (hl : kvs.length < sizeLine) : DPut H a (kV k) v (upd H a (.dK (putK kvs k v))) := .inl ⟨kvs, k, e, rfl, hl, rfl⟩
theorem DPut.t {H : Hp} {a b : Addr} {kvs : List (List Key × V)} {k : List Key} {v : V} (e : H a = some (.dT kvs)) (eb : H b = some (.tup (k.map kV))) (hl : kvs.length < sizeLine) :
    DPut H a (.ref b) v (upd H a (.dT (putK kvs k v))) := .inr ⟨kvs, k, b, e, rfl, eb, hl, rfl⟩


section
variable {X : Cx} {pins : List (Addr × Obj)} {σ : St} {H : Hp} {s : Shared} {a : Addr} {y v : V} {u r : Value} {o : Option V} {A : Around} {E : Value → Shared → Prop}

end

section
variable {X : Cx} {pins : List (Addr × Obj)} {σ : St} {H : Hp} {s : Shared} {a : Addr} {kvs : List (Key × V)} {k : Key} {u : Value} {A : Around} {E : Value → Shared → Prop}
end


/-! ### readings and rules -/
section
variable {X : Cx} {o i e value : Expr} {pos pos' tpos : Pos} {td ty tv : TE}
end


/-! ### displays -/
section
variable {X : Cx} {pos : Pos}
end

/-! ### methods -/
/-- a method call o.m(e) of a built-in, with one argument: what must be seen of the text -/
structure M1 (X : Cx) (o : Expr) (m : Str) (apos : Pos) (e : Expr) (cpos : Pos) : Prop where
  base : attributeBase o m X.env (eval o X.env) = eval o X.env
  few : ((backTo cpos (starEach [e] X.env)).all (fun x => !x.1) && (backToKw cpos (keywordEach [] X.env)).all (fun x => x.1.isSome)
    && decide (([e] : List Expr).length + ([] : List Keyword).length + (if ([] : List Keyword).isEmpty then 0 else 1) < 30)) = true
  line : (apos.endLine == cpos.line) = true
  trees : backTo cpos (starEach [e] X.env) = [(false, eval e X.env)]
structure M2 (X : Cx) (o : Expr) (m : Str) (apos : Pos) (e f : Expr) (cpos : Pos) : Prop where
  base : attributeBase o m X.env (eval o X.env) = eval o X.env
  few : ((backTo cpos (starEach [e, f] X.env)).all (fun x => !x.1) && (backToKw cpos (keywordEach [] X.env)).all (fun x => x.1.isSome)
    && decide (([e, f] : List Expr).length + ([] : List Keyword).length + (if ([] : List Keyword).isEmpty then 0 else 1) < 30)) = true
  line : (apos.endLine == cpos.line) = true
  trees : backTo cpos (starEach [e, f] X.env) = [(false, eval e X.env), (false, eval f X.env)]

section
variable {X : Cx} {pins : List (Addr × Obj)} {σ : St} {H : Hp} {s : Shared} {a : Addr} {y d : V} {u r : Value} {o : Option V} {A : Around} {E : Value → Shared → Prop}
end

section
variable {X : Cx} {o e f : Expr} {apos cpos : Pos} {td ty tx : TE}
end

/-! ### dict(d): a copy -/
section
variable {X : Cx} {pins : List (Addr × Obj)} {σ : St} {H : Hp} {s : Shared} {a : Addr} {kvs : List (Key × V)} {A : Around} {E : Value → Shared → Prop}
end


section
variable {X : Cx} {pins : List (Addr × Obj)} {σ : St} {H : Hp} {s : Shared} {a : Addr} {y : V} {u : Value} {A : Around} {E : Value → Shared → Prop}
end
end L2
namespace L3
open PySem PySem.Spec PyProof.Rows L2
/-! ### data: tuples (and frozen lists) are values, lists and dicts stand in the heap -/
abbrev St := L2.St
inductive D where
  | non | bl (b : Bool) | int (i : Int) | str (x : Str) | tup (ds : List D) | fl (ds : List D) | ref (a : Addr) | ty (n : String) | ktup (ds : List D)

/-- a list that nobody changes: the script, or one of the module's -/
def FzL (K : PySem.W.Frag) (H : Hp) (a : Addr) (xs : List V) : Prop :=
  (∃ o, H a = some (.frz o (.lst xs))) ∨
    ∃ (o : Obj) (its : Array Value) (n : Nat), K.lookup a = some o ∧ o.cls = .type "list" ∧ o.dict = none ∧ o.data = .seq its n ∧ its.size ≤ sizeLine ∧ Vals xs its.toList
theorem FzL.sq {K : PySem.W.Frag} {H : Hp} {a : Addr} {xs : List V} (h : FzL K H a xs) : SqL K H a xs := by
  rcases h with ⟨o, h⟩ | h
  · exact .inl (.inr ⟨o, h⟩)
  · exact .inr h

/-- a tuple of the module's -/
def KTp (K : PySem.W.Frag) (a : Addr) (xs : List V) : Prop := ∃ (o : Obj) (its : Array Value) (n : Nat), K.lookup a = some o ∧ o.cls = .type "tuple" ∧ o.data = .seq its n ∧ its.size ≤ sizeLine ∧ Vals xs its.toList
theorem KTp.sq {K : PySem.W.Frag} {H : Hp} {a : Addr} {xs : List V} (h : KTp K a xs) : SqT K H a xs := .inr h

mutual
inductive Rep (K : PySem.W.Frag) (H : Hp) : D → V → Prop
  | non : Rep K H .non .non
  | bl (b : Bool) : Rep K H (.bl b) (.bl b)
  | int (i : Int) : Rep K H (.int i) (.int i)
  | str (x : Str) : Rep K H (.str x) (.str x)
  | ty (n : String) : Rep K H (.ty n) (.ty n)
  | ref (a : Addr) : Rep K H (.ref a) (.ref a)
  | tup {a : Addr} {xs : List V} {ds : List D} : H a = some (.tup xs) → RepL K H ds xs → Rep K H (.tup ds) (.ref a)
  | fl {a : Addr} {xs : List V} {ds : List D} : FzL K H a xs → RepL K H ds xs → Rep K H (.fl ds) (.ref a)
  | ktup {a : Addr} {xs : List V} {ds : List D} : KTp K a xs → RepL K H ds xs → Rep K H (.ktup ds) (.ref a)
inductive RepL (K : PySem.W.Frag) (H : Hp) : List D → List V → Prop
  | nil : RepL K H [] []
  | cons {d : D} {v : V} {ds : List D} {vs : List V} : Rep K H d v → RepL K H ds vs → RepL K H (d :: ds) (v :: vs)
end

/-- tuples and frozen things are kept -/
structure TK (H H' : Hp) : Prop where
  tup : ∀ a xs, H a = some (.tup xs) → H' a = some (.tup xs)
  frz : ∀ a o u, H a = some (.frz o u) → H' a = some (.frz o u)
theorem TK.refl {H : Hp} : TK H H := ⟨fun _ _ h => h, fun _ _ _ h => h⟩
theorem TK.trans {H H1 H2 : Hp} (a : TK H H1) (b : TK H1 H2) : TK H H2 := ⟨fun c xs h => b.tup c xs (a.tup c xs h), fun c o u h => b.frz c o u (a.frz c o u h)⟩
theorem TK.fresh {H : Hp} {p : Addr} {o : HO} (n : H p = none) : TK H (upd H p o) :=
  ⟨fun a xs h => by rw [upd_ne (ne_of_none h n)]; exact h, fun a o' u h => by rw [upd_ne (ne_of_none h n)]; exact h⟩
theorem TK.lst {H : Hp} {p : Addr} {o : HO} {xs : List V} (n : H p = some (.lst xs)) : TK H (upd H p o) :=
  ⟨fun a ys h => by rw [upd_ne (ne_of h n (by intro z; cases z))]; exact h, fun a o' u h => by rw [upd_ne (ne_of h n (by intro z; cases z))]; exact h⟩
theorem TK.dT {H : Hp} {p : Addr} {o : HO} {xs : List (List Key × V)} (n : H p = some (.dT xs)) : TK H (upd H p o) :=
  ⟨fun a ys h => by rw [upd_ne (ne_of h n (by intro z; cases z))]; exact h, fun a o' u h => by rw [upd_ne (ne_of h n (by intro z; cases z))]; exact h⟩
theorem TK.ins {H : Hp} {p C dx : Addr} {o : HO} {xs : List (Str × V)} (n : H p = some (.ins C dx xs)) : TK H (upd H p o) :=
  ⟨fun a ys h => by rw [upd_ne (ne_of h n (by intro z; cases z))]; exact h, fun a o' u h => by rw [upd_ne (ne_of h n (by intro z; cases z))]; exact h⟩
theorem TK.sqT {K : PySem.W.Frag} {H H' : Hp} (t : TK H H') {a : Addr} {xs : List V} (h : SqT K H a xs) : SqT K H' a xs := by
  rcases h with (h | ⟨o, h⟩) | h
  · exact .inl (.inl (t.tup _ _ h))
  · exact .inl (.inr ⟨o, t.frz _ _ _ h⟩)
  · exact .inr h
theorem TK.fzL {K : PySem.W.Frag} {H H' : Hp} (t : TK H H') {a : Addr} {xs : List V} (h : FzL K H a xs) : FzL K H' a xs := by
  rcases h with ⟨o, h⟩ | h
  · exact .inl ⟨o, t.frz _ _ _ h⟩
  · exact .inr h
mutual
theorem Rep.mono {K : PySem.W.Frag} {H H' : Hp} (t : TK H H') : ∀ {d : D} {v : V}, Rep K H d v → Rep K H' d v
  | _, _, .non => .non
  | _, _, .bl b => .bl b
  | _, _, .int i => .int i
  | _, _, .str x => .str x
  | _, _, .ty n => .ty n
  | _, _, .ref a => .ref a
  | _, _, .tup h r => .tup (t.tup _ _ h) (RepL.mono t r)
  | _, _, .fl h r => .fl (t.fzL h) (RepL.mono t r)
  | _, _, .ktup h r => .ktup h (RepL.mono t r)
theorem RepL.mono {K : PySem.W.Frag} {H H' : Hp} (t : TK H H') : ∀ {ds : List D} {vs : List V}, RepL K H ds vs → RepL K H' ds vs
  | _, _, .nil => .nil
  | _, _, .cons r s => .cons (Rep.mono t r) (RepL.mono t s)
end
section
variable {K : PySem.W.Frag} {H : Hp}
theorem RepL.length : ∀ {ds : List D} {vs : List V}, RepL K H ds vs → ds.length = vs.length
  | _, _, .nil => rfl
  | _, _, .cons _ s => by simp [RepL.length s]
theorem RepL.get : ∀ {ds : List D} {vs : List V} {i : Nat} {d : D}, RepL K H ds vs → ds[i]? = some d → ∃ v, vs[i]? = some v ∧ Rep K H d v
  | _, _, _, _, .nil, e => by simp at e
  | _, _, 0, _, .cons r _, e => by simp at e; subst e; exact ⟨_, rfl, r⟩
  | _, _, i + 1, d, .cons _ t, e => by
    obtain ⟨u, h1, h2⟩ := RepL.get (i := i) (d := d) t (by simpa using e)
    exact ⟨u, by simpa using h1, h2⟩
theorem RepL.getV : ∀ {ds : List D} {vs : List V} {i : Nat} {v : V}, RepL K H ds vs → vs[i]? = some v → ∃ d, ds[i]? = some d ∧ Rep K H d v
  | _, _, _, _, .nil, e => by simp at e
  | _, _, 0, _, .cons r _, e => by simp at e; subst e; exact ⟨_, rfl, r⟩
  | _, _, i + 1, v, .cons _ t, e => by
    obtain ⟨u, h1, h2⟩ := RepL.getV (i := i) (v := v) t (by simpa using e)
    exact ⟨u, by simpa using h1, h2⟩
theorem RepL.append : ∀ {ds es : List D} {vs us : List V}, RepL K H ds vs → RepL K H es us → RepL K H (ds ++ es) (vs ++ us)
  | _, _, _, _, .nil, s => s
  | _, _, _, _, .cons r t, s => .cons r (RepL.append t s)
theorem RepL.take : ∀ {ds : List D} {vs : List V} (n : Nat), RepL K H ds vs → RepL K H (ds.take n) (vs.take n)
  | _, _, 0, _ => .nil
  | _, _, _ + 1, .nil => .nil
  | _, _, n + 1, .cons r t => .cons r (RepL.take n t)
theorem RepL.drop : ∀ {ds : List D} {vs : List V} (n : Nat), RepL K H ds vs → RepL K H (ds.drop n) (vs.drop n)
  | _, _, 0, r => r
  | _, _, _ + 1, .nil => .nil
  | _, _, n + 1, .cons _ t => RepL.drop n t
theorem RepL.snoc {ds : List D} {vs : List V} {d : D} {v : V} (r : RepL K H ds vs) (s : Rep K H d v) : RepL K H (ds ++ [d]) (vs ++ [v]) := r.append (.cons s .nil)
theorem RepL.dropLast {ds : List D} {vs : List V} (r : RepL K H ds vs) : RepL K H ds.dropLast vs.dropLast := by
  rw [List.dropLast_eq_take, List.dropLast_eq_take, ← r.length]; exact r.take _
theorem RepL.ints : ∀ (ns : List Int), RepL K H (ns.map D.int) (ns.map V.int)
  | [] => .nil
  | n :: ns => .cons (.int n) (RepL.ints ns)
/-- ints are what they are -/
theorem RepL.ints_inv : ∀ {ns : List Int} {vs : List V}, RepL K H (ns.map D.int) vs → vs = ns.map V.int
  | [], _, .nil => rfl
  | _ :: ns, _, .cons (.int _) t => by rw [List.map_cons, RepL.ints_inv (ns := ns) t]
end

/-! ### the heap -/
inductive O3 where
  | lst (ds : List D)
  /-- a dict keyed by tuples of ints and texts -/
  | dic (kvs : List (List Key × D))
  /-- an instance of the class of that name -/
  | ins (c : Str) (fs : List (Str × D))
  /-- an exception of the class of that name -/
  | exc (c : Str)
abbrev Hp3 := Addr → Option O3
def upd3 (H : Hp3) (a : Addr) (o : O3) : Hp3 := fun b => if b = a then some o else H b
theorem upd3_same {H : Hp3} {a : Addr} {o : O3} : upd3 H a o a = some o := by unfold upd3; rw [if_pos rfl]
theorem upd3_ne {H : Hp3} {a b : Addr} {o : O3} (h : b ≠ a) : upd3 H a o b = H b := by unfold upd3; rw [if_neg h]
theorem upd3_upd3 {H : Hp3} {a : Addr} {o u : O3} : upd3 (upd3 H a o) a u = upd3 H a u := by
  funext b; unfold upd3; split <;> rfl
theorem ne3 {H : Hp3} {a b : Addr} {o : O3} (h : H a = some o) (h' : H b = none) : a ≠ b := by
  intro e; subst e; rw [h] at h'; cases h'
def excO (a C : Addr) : HO := .ext fun h => ∃ o vs, h.get? a = some o ∧ o.cls = .ref C ∧ o.data = .fields vs
def OR (K : PySem.W.Frag) (H : Hp) (a : Addr) : O3 → Prop
  | .lst ds => ∃ xs, H a = some (.lst xs) ∧ RepL K H ds xs
  | .dic kvs => ∃ ks, H a = some (.dT ks) ∧ Paired (fun (p : List Key × D) (q : List Key × V) => p.1 = q.1 ∧ Rep K H p.2 q.2) kvs ks
  | .ins c fs => ∃ C dx xs, PySem.W.nsIn K mainGlobals c = some (some (.ref C)) ∧ H a = some (.ins C dx xs) ∧ Paired (fun (p : Str × D) (q : Str × V) => p.1 = q.1 ∧ Rep K H p.2 q.2) fs xs
  | .exc c => ∃ C, PySem.W.nsIn K mainGlobals c = some (some (.ref C)) ∧ H a = some (excO a C)
def HR (K : PySem.W.Frag) (H3 : Hp3) (H : Hp) : Prop := ∀ a o, H3 a = some o → OR K H a o
/-- part of a heap -/
def Sub3 (H H' : Hp3) : Prop := ∀ a o, H a = some o → H' a = some o
theorem Sub3.refl {H : Hp3} : Sub3 H H := fun _ _ h => h
theorem Sub3.trans {H H1 H2 : Hp3} (a : Sub3 H H1) (b : Sub3 H1 H2) : Sub3 H H2 := fun c o h => b c o (a c o h)
theorem Sub3.fresh {H : Hp3} {p : Addr} {o : O3} (n : H p = none) : Sub3 H (upd3 H p o) := fun a u h => by rw [upd3_ne (ne3 h n)]; exact h
theorem Sub3.upd {H H' : Hp3} {p : Addr} {o : O3} (s : Sub3 H H') (n : H p = none) : Sub3 H (upd3 H' p o) := fun a u h => by rw [upd3_ne (ne3 h n)]; exact s a u h
section
variable {K : PySem.W.Frag} {H H' : Hp} {H3 H3' : Hp3}
theorem HR.sub (h : HR K H3' H) (s : Sub3 H3 H3') : HR K H3 H := fun a o e => h a o (s a o e)
theorem HR.fresh (h : HR K H3 H) {p : Addr} (n : H p = none) : H3 p = none := by
  cases e : H3 p with
  | none => rfl
  | some o =>
    cases o with
    | lst ds => obtain ⟨xs, q, _⟩ := h p _ e; rw [n] at q; cases q
    | dic ks => obtain ⟨xs, q, _⟩ := h p _ e; rw [n] at q; cases q
    | ins c fs => obtain ⟨C, dx, xs, _, q, _⟩ := h p _ e; rw [n] at q; cases q
    | exc c => obtain ⟨C, _, q⟩ := h p _ e; rw [n] at q; cases q
theorem OR.keep {a : Addr} {o : O3} (x : OR K H a o) (t : TK H H') (e : H' a = H a) : OR K H' a o := by
  cases o with
  | lst ds => obtain ⟨xs, q, r⟩ := x; exact ⟨xs, e.trans q, r.mono t⟩
  | dic ks => obtain ⟨xs, q, r⟩ := x; exact ⟨xs, e.trans q, Paired.mapP r fun _ _ z => ⟨z.1, z.2.mono t⟩⟩
  | ins c fs => obtain ⟨C, dx, xs, g, q, r⟩ := x; exact ⟨C, dx, xs, g, e.trans q, Paired.mapP r fun _ _ z => ⟨z.1, z.2.mono t⟩⟩
  | exc c => obtain ⟨C, g, q⟩ := x; exact ⟨C, g, e.trans q⟩
theorem HR.set (h : HR K H3 H) {p : Addr} {o : HO} {o3 : O3} (t : TK H (upd H p o)) (new : OR K (upd H p o) p o3) : HR K (upd3 H3 p o3) (upd H p o) := fun b u e => by
  by_cases hb : b = p
  · subst hb; rw [upd3_same] at e; cases e; exact new
  · rw [upd3_ne hb] at e; exact (h b u e).keep t (upd_ne hb)
theorem HR.setL (h : HR K H3 H) {p : Addr} {xs : List V} {ds : List D} (t : TK H (upd H p (.lst xs))) (r : RepL K (upd H p (.lst xs)) ds xs) : HR K (upd3 H3 p (.lst ds)) (upd H p (.lst xs)) := h.set (o3 := .lst ds) t ⟨xs, upd_same, r⟩
theorem HR.tup (h : HR K H3 H) {p : Addr} {xs : List V} (n : H p = none) : HR K H3 (upd H p (.tup xs)) := fun b u e => by
  have hb : b ≠ p := ne3 e (h.fresh n)
  exact (h b u e).keep (TK.fresh n) (upd_ne hb)
end

/-! ### states, readings -/
abbrev St3 := List (Option D)
abbrev VK3 := D → Hp3 → Prop
abbrev TE3 := St3 → Hp3 → VK3 → Prop
abbrev TT3 := St3 → Hp3 → (Bool → Hp3 → Prop) → Prop
abbrev TA3 := St3 → Hp3 → (List D → Hp3 → Prop) → Prop
structure Ends3 where
  nx : St3 → Hp3 → Prop
  rt : VK3
  bk : St3 → Hp3 → Prop := fun _ _ => False
  ct : St3 → Hp3 → Prop := fun _ _ => False
abbrev TS3 := Ends3 → St3 → Hp3 → Prop
structure SR (K : PySem.W.Frag) (H : Hp) (σ3 : St3) (σ : St) : Prop where
  len : σ3.length = σ.length
  get : ∀ (i : Nat) (d : D), σ3[i]? = some (some d) → ∃ v, σ[i]? = some (some v) ∧ Rep K H d v
theorem SR.mono {K : PySem.W.Frag} {H H' : Hp} {σ3 : St3} {σ : St} (s : SR K H σ3 σ) (t : TK H H') : SR K H' σ3 σ :=
  ⟨s.len, fun i d e => let ⟨v, h1, h2⟩ := s.get i d e; ⟨v, h1, h2.mono t⟩⟩
theorem SR.set {K : PySem.W.Frag} {H : Hp} {σ3 : St3} {σ : St} (s : SR K H σ3 σ) (i : Nat) {d : D} {v : V} (r : Rep K H d v) : SR K H (σ3.set i (some d)) (σ.set i (some v)) := by
  refine ⟨by simp [s.len], fun j e h => ?_⟩
  by_cases hj : j = i
  · subst hj
    by_cases hl : j < σ3.length
    · rw [List.getElem?_set_self hl] at h
      cases h
      exact ⟨v, by rw [List.getElem?_set_self (by rw [← s.len]; exact hl)], r⟩
    · rw [List.getElem?_eq_none (by simpa using hl)] at h; cases h
  · rw [List.getElem?_set_ne (Ne.symm hj)] at h
    obtain ⟨u, h1, h2⟩ := s.get j e h
    exact ⟨u, by rw [List.getElem?_set_ne (Ne.symm hj)]; exact h1, h2⟩
def KE (K : PySem.W.Frag) (H : Hp) (Q3 : VK3) (Q : VK) : Prop := ∀ d v H3' H', TK H H' → HR K H3' H' → Rep K H' d v → Q3 d H3' → Q v H'
def KT (K : PySem.W.Frag) (H : Hp) (Q3 : Bool → Hp3 → Prop) (Q : Bool → Hp → Prop) : Prop := ∀ b H3' H', TK H H' → HR K H3' H' → Q3 b H3' → Q b H'
def KA (K : PySem.W.Frag) (H : Hp) (Q3 : List D → Hp3 → Prop) (Q : List V → Hp → Prop) : Prop := ∀ ds vs H3' H', TK H H' → HR K H3' H' → RepL K H' ds vs → Q3 ds H3' → Q vs H'
def KN (K : PySem.W.Frag) (H : Hp) (Q3 : St3 → Hp3 → Prop) (Q : St → Hp → Prop) : Prop := ∀ σ3 σ H3' H', TK H H' → SR K H' σ3 σ → HR K H3' H' → Q3 σ3 H3' → Q σ H'
structure KS (K : PySem.W.Frag) (H : Hp) (D3 : Ends3) (D : Ends) : Prop where
  nx : KN K H D3.nx D.nx
  rt : KE K H D3.rt D.rt
  bk : KN K H D3.bk D.bk
  ct : KN K H D3.ct D.ct
theorem KE.mono {K : PySem.W.Frag} {H H1 : Hp} {Q3 : VK3} {Q : VK} (k : KE K H Q3 Q) (t : TK H H1) : KE K H1 Q3 Q := fun d v H3 H' t' => k d v H3 H' (t.trans t')
theorem KN.mono {K : PySem.W.Frag} {H H1 : Hp} {Q3 : St3 → Hp3 → Prop} {Q : St → Hp → Prop} (k : KN K H Q3 Q) (t : TK H H1) : KN K H1 Q3 Q := fun d v H3 H' t' => k d v H3 H' (t.trans t')
theorem KS.mono {K : PySem.W.Frag} {H H1 : Hp} {D3 : Ends3} {D : Ends} (k : KS K H D3 D) (t : TK H H1) : KS K H1 D3 D := ⟨k.nx.mono t, k.rt.mono t, k.bk.mono t, k.ct.mono t⟩
def liftE (K : PySem.W.Frag) (t : TE3) : TE := fun σ H Q => ∃ σ3 H3 Q3, SR K H σ3 σ ∧ HR K H3 H ∧ t σ3 H3 Q3 ∧ KE K H Q3 Q
def liftT (K : PySem.W.Frag) (t : TT3) : TT := fun σ H Q => ∃ σ3 H3 Q3, SR K H σ3 σ ∧ HR K H3 H ∧ t σ3 H3 Q3 ∧ KT K H Q3 Q
def liftA (K : PySem.W.Frag) (t : TA3) : TA := fun σ H Q => ∃ σ3 H3 Q3, SR K H σ3 σ ∧ HR K H3 H ∧ t σ3 H3 Q3 ∧ KA K H Q3 Q
def liftS (K : PySem.W.Frag) (t : TS3) : TS := fun D σ H => ∃ σ3 H3 D3, SR K H σ3 σ ∧ HR K H3 H ∧ t D3 σ3 H3 ∧ KS K H D3 D
def PE3 (X : Cx) (e : Expr) (t : TE3) : Prop := PE X e (liftE X.K t)
def PT3 (X : Cx) (e : Expr) (t : TT3) : Prop := PT X e (liftT X.K t)
def PW3 (X : Cx) (e : Expr) (t : TT3) : Prop := PW X e (liftT X.K t)
def PA3 (X : Cx) (es : List Expr) (t : TA3) : Prop := PA X es (liftA X.K t)
def PS3 (X : Cx) (st : Stmt) (t : TS3) : Prop := PS X st (liftS X.K t)
def PSs3 (X : Cx) (st : List Stmt) (t : TS3) : Prop := PSs X st (liftS X.K t)
section
variable {X : Cx} {e : Expr} {es : List Expr} {st : Stmt} {sts : List Stmt}
theorem pe_imp {t t' : TE} (h : PE X e t) (i : ∀ σ H Q, t' σ H Q → t σ H Q) : PE X e t' := fun pins s σ H Q I hw => h pins s σ H Q I (i σ H Q hw)
theorem pt_imp {t t' : TT} (h : PT X e t) (i : ∀ σ H Q, t' σ H Q → t σ H Q) : PT X e t' := fun pins s σ H Q I hw => h pins s σ H Q I (i σ H Q hw)
theorem pw_imp {t t' : TT} (h : PW X e t) (i : ∀ σ H Q, t' σ H Q → t σ H Q) : PW X e t' := fun wh pins s σ H Q I hw => h wh pins s σ H Q I (i σ H Q hw)
theorem pa_imp {t t' : TA} (h : PA X es t) (i : ∀ σ H Q, t' σ H Q → t σ H Q) : PA X es t' := fun pos pins s σ H Q I hw => h pos pins s σ H Q I (i σ H Q hw)
theorem ps_imp {t t' : TS} (h : PS X st t) (i : ∀ D σ H, t' D σ H → t D σ H) : PS X st t' := fun pins s σ H D I hw => h pins s σ H D I (i D σ H hw)
theorem pss_imp {t t' : TS} (h : PSs X sts t) (i : ∀ D σ H, t' D σ H → t D σ H) : PSs X sts t' := fun pins s σ H D I hw => h pins s σ H D I (i D σ H hw)
end
end L3

namespace L3
open PySem PySem.Spec PyProof.Rows L2
abbrev R3 := D → D → Hp3 → VK3 → Prop
def lift2 (K : PySem.W.Frag) (r : R3) : R2 := fun x y H Q => ∃ dx dy H3 Q3, HR K H3 H ∧ Rep K H dx x ∧ Rep K H dy y ∧ r dx dy H3 Q3 ∧ KE K H Q3 Q
def lift1 (K : PySem.W.Frag) (r : D → Hp3 → VK3 → Prop) : V → Hp → VK → Prop := fun x H Q => ∃ dx H3 Q3, HR K H3 H ∧ Rep K H dx x ∧ r dx H3 Q3 ∧ KE K H Q3 Q
def liftC (K : PySem.W.Frag) (r : List D → Hp3 → VK3 → Prop) : List V → Hp → VK → Prop := fun xs H Q => ∃ ds H3 Q3, HR K H3 H ∧ RepL K H ds xs ∧ r ds H3 Q3 ∧ KE K H Q3 Q
def liftM (K : PySem.W.Frag) (r : D → List D → Hp3 → VK3 → Prop) : V → List V → Hp → VK → Prop := fun x xs H Q => ∃ d ds H3 Q3, HR K H3 H ∧ Rep K H d x ∧ RepL K H ds xs ∧ r d ds H3 Q3 ∧ KE K H Q3 Q

section
variable {X : Cx} {a b c e : Expr} {es : List Expr} {pos : Pos} {ta tb tc te : TE3} {tr : TA3} {tA tB : TT3}
/-! ### names, constants -/
def v3 (i : Nat) : TE3 := fun σ H Q => match σ[i]? with
  | some (some d) => Q d H
  | _ => False
def c3 (d : D) : TE3 := fun _ H Q => Q d H
theorem p3_var (i : Nat) {x : Str} (hN : X.N[i]? = some x := by rfl) (hv : Vis X.env.scope x := by first | exact Or.inl rfl | exact Or.inr (Or.inl rfl) | exact Or.inr (Or.inr rfl)) (hd : (x == ("__debug__" : Str)) = false := by decide)
    (hcd : (x == ("__classdict__" : Str)) = false := by decide) : PE3 X (.Name x pos) (v3 i) :=
  pe_imp (pv i hN hv hd hcd) fun σ H Q ⟨σ3, H3, Q3, sr, hr, t, k⟩ => by
    unfold v3 at t
    split at t
    · rename_i d h
      obtain ⟨v, h1, r⟩ := sr.get i d h
      exact ⟨v, h1, k d v H3 H TK.refl hr r t⟩
    · exact t.elim
theorem p3_int {i : Int} {j : Nat} : PE3 X (.Constant (.int i) j pos) (c3 (.int i)) := pe_imp pe_int fun _ _ _ ⟨_, _, _, _, hr, t, k⟩ => k _ _ _ _ TK.refl hr (.int i) t
theorem p3_bl {i : Bool} {j : Nat} : PE3 X (.Constant (.bool i) j pos) (c3 (.bl i)) := pe_imp pe_bl fun _ _ _ ⟨_, _, _, _, hr, t, k⟩ => k _ _ _ _ TK.refl hr (.bl i) t
theorem p3_non {j : Nat} : PE3 X (.Constant .none j pos) (c3 .non) := pe_imp pe_non fun _ _ _ ⟨_, _, _, _, hr, t, k⟩ => k _ _ _ _ TK.refl hr .non t
theorem p3_str {i : Str} {j : Nat} : PE3 X (.Constant (.str i) j pos) (c3 (.str i)) := pe_imp pe_str fun _ _ _ ⟨_, _, _, _, hr, t, k⟩ => k _ _ _ _ TK.refl hr (.str i) t
/-- a built-in type by its name -/
theorem p3_ty {x : Str} {T : String} (hg : Gl X x) (hm : X.mg x = none) (hv : bootBuiltins x = some (.type T)) (hn : x ≠ "__name__" := by decide) (hd : (x == ("__debug__" : Str)) = false := by decide) : PE3 X (.Name x pos) (c3 (.ty T)) :=
  pe_imp (pe_bltn (v := .ty T) hg hm hv rfl hn hd) fun _ _ _ ⟨_, _, _, _, hr, t, k⟩ => k _ _ _ _ TK.refl hr (.ty T) t
/-! ### two places -/
def o3 (r : R3) (ta tb : TE3) : TE3 := fun σ H Q => ta σ H fun x H1 => tb σ H1 fun y H2 => r x y H2 Q
theorem lift_bin {K : PySem.W.Frag} {r : R3} {σ : St} {H : Hp} {Q : VK} (h : liftE K (o3 r ta tb) σ H Q) : tOp (lift2 K r) (liftE K ta) (liftE K tb) σ H Q := by
  obtain ⟨σ3, H3, Q3, sr, hr, t, k⟩ := h
  exact ⟨σ3, H3, _, sr, hr, t, fun x v H3a Ha tka hra rx qa => ⟨σ3, H3a, _, sr.mono tka, hra, qa, fun y u H3b Hb tkb hrb ry qb =>
    ⟨x, y, H3b, Q3, hrb, rx.mono tkb, ry, qb, k.mono (tka.trans tkb)⟩⟩⟩
theorem p3_op {op : Operator} {r : R3} (ho : OpR X (binaryOp op) (lift2 X.K r)) (ha : PE3 X a ta) (hb : PE3 X b tb) : PE3 X (.BinOp a op b pos) (o3 r ta tb) :=
  pe_imp (pe_op ho ha hb) fun _ _ _ h => lift_bin h
theorem p3_cmp {op : CmpOp} {r : R3} (ho : OpR X (compareOp op) (lift2 X.K r)) (ha : PE3 X a ta) (hb : PE3 X b tb) (hm : behindInMarks op b = false := by first | exact nomark _ | with_unfolding_all rfl) : PE3 X (.Compare a [op] [b] pos) (o3 r ta tb) :=
  pe_imp (pe_cmpR ho ha hb hm) fun _ _ _ h => lift_bin h
theorem p3_ix {r : R3} (hr : IxR X (lift2 X.K r)) (ha : PE3 X a ta) (hb : PE3 X b tb) (hs : PlainIx b := by exact fun _ _ => rfl) : PE3 X (.Subscript a b pos) (o3 r ta tb) :=
  pe_imp (pe_ix hr ha hb hs) fun _ _ _ h => lift_bin h
def u3 (r : D → Hp3 → VK3 → Prop) (ta : TE3) : TE3 := fun σ H Q => ta σ H fun x H1 => r x H1 Q
theorem p3_un {op : UnaryOp} {r : D → Hp3 → VK3 → Prop} (ho : UnR X (unaryOp op) (lift1 X.K r)) (ha : PE3 X a ta) : PE3 X (.UnaryOp op a pos) (u3 r ta) :=
  pe_imp (pe_un ho ha) fun _ _ _ ⟨σ3, H3, Q3, sr, hr, t, k⟩ => ⟨σ3, H3, _, sr, hr, t, fun x v H3a Ha tka hra rx qa => ⟨x, H3a, Q3, hra, rx, qa, k.mono tka⟩⟩

/-! ### tests -/
def bt (d : D) (H : Hp3) (Q : Bool → Hp3 → Prop) : Prop := match d with
  | .bl k => Q k H
  | _ => False
theorem ke_test {K : PySem.W.Frag} {H : Hp} {Q3 : Bool → Hp3 → Prop} {Q : Bool → Hp → Prop} (k : KT K H Q3 Q) : KE K H (fun d H1 => bt d H1 Q3) (fun x H' => ∃ c, x = .bl c ∧ Q c H') := fun d v H3' H' tk hr rep q => by
  cases rep with
  | bl b => exact ⟨b, rfl, k _ _ _ tk hr q⟩
  | _ => exact q.elim
def ts3 (t : TE3) : TT3 := fun σ H Q => t σ H fun d H1 => bt d H1 Q
theorem p3_tcmp {op : CmpOp} {r : R3} (ho : OpR X (compareOp op) (lift2 X.K r)) (ha : PE3 X a ta) (hb : PE3 X b tb) (hm : behindInMarks op b = false := by first | exact nomark _ | with_unfolding_all rfl) : PT3 X (.Compare a [op] [b] pos) (ts3 (o3 r ta tb)) :=
  pt_imp (pt_cmpR ho ha hb hm) fun _ _ _ ⟨σ3, H3, Q3, sr, hr, t, k⟩ => lift_bin ⟨σ3, H3, _, sr, hr, t, ke_test k⟩
/-- a value that is a bool, as a test -/
theorem p3_tval (h : PE3 X e te) (he : ∀ whole, isTrue e X.env whole = (do let v ← whole; standAt e.pos; holding [v] (truthy v)) := by intro _; rfl) : PT3 X e (ts3 te) :=
  pt_imp (pt_val h he) fun _ _ _ ⟨σ3, H3, Q3, sr, hr, t, k⟩ => ⟨σ3, H3, _, sr, hr, t, ke_test k⟩
def an3 (t u : TT3) : TT3 := fun σ H Q => t σ H fun c H1 => if c = true then u σ H1 Q else Q false H1
def or3 (t u : TT3) : TT3 := fun σ H Q => t σ H fun c H1 => if c = true then Q true H1 else u σ H1 Q
def no3 (t : TT3) : TT3 := fun σ H Q => t σ H fun c H1 => Q (!c) H1
variable {rest : List Expr}
theorem KT.mono {K : PySem.W.Frag} {H H1 : Hp} {Q3 : Bool → Hp3 → Prop} {Q : Bool → Hp → Prop} (k : KT K H Q3 Q) (t : TK H H1) : KT K H1 Q3 Q := fun d H3 H' t' => k d H3 H' (t.trans t')
theorem p3_wor1 (ha : PT3 X a tA) : PW3 X (.BoolOp .Or [a] pos) tA := pw_or1 ha
theorem p3_wor (ha : PT3 X a tA) (hb : PW3 X (.BoolOp .Or (b :: rest) pos) tB) : PW3 X (.BoolOp .Or (a :: b :: rest) pos) (or3 tA tB) :=
  pw_imp (pw_or ha hb) fun _ _ _ ⟨σ3, H3, Q3, sr, hr, t, k⟩ => ⟨σ3, H3, _, sr, hr, t, fun c H3a Ha tka hra qa => by
    cases c with
    | false => exact ⟨σ3, H3a, Q3, sr.mono tka, hra, qa, k.mono tka⟩
    | true => exact k _ _ _ tka hra qa⟩
theorem p3_tw (h : PW3 X e tA) : PT3 X e tA := h.pt
theorem p3_tnot (ha : PT3 X a tA) : PT3 X (.UnaryOp .Not a pos) (no3 tA) :=
  pt_imp (pt_not ha) fun _ _ _ ⟨σ3, H3, Q3, sr, hr, t, k⟩ => ⟨σ3, H3, _, sr, hr, t, fun c H3a Ha tka hra qa => k _ _ _ tka hra qa⟩
/-! the same as values -/
def av3 (ta tb : TE3) : TE3 := fun σ H Q => ta σ H fun x H1 => match x with
  | .bl c => if c = true then tb σ H1 Q else Q (.bl false) H1
  | _ => False
def ov3 (ta tb : TE3) : TE3 := fun σ H Q => ta σ H fun x H1 => match x with
  | .bl c => if c = true then Q (.bl true) H1 else tb σ H1 Q
  | _ => False
def nv3 (ta : TE3) : TE3 := fun σ H Q => ta σ H fun x H1 => match x with
  | .bl c => Q (.bl (!c)) H1
  | _ => False
theorem p3_one {op : BoolOp} (h : PE3 X a ta) : PE3 X (.BoolOp op [a] pos) ta := pe_one h
theorem p3_and (ha : PE3 X a ta) (hb : PE3 X (.BoolOp .And (b :: rest) pos) tb) : PE3 X (.BoolOp .And (a :: b :: rest) pos) (av3 ta tb) :=
  pe_imp (pe_and ha hb) fun _ _ _ ⟨σ3, H3, Q3, sr, hr, t, k⟩ => ⟨σ3, H3, _, sr, hr, t, fun x v H3a Ha tka hra rx qa => by
    cases rx with
    | bl c =>
      refine ⟨c, rfl, ?_⟩
      cases c with
      | true => exact ⟨σ3, H3a, Q3, sr.mono tka, hra, qa, k.mono tka⟩
      | false => exact k _ _ _ _ tka hra (.bl false) qa
    | _ => exact qa.elim⟩
theorem p3_not (ha : PE3 X a ta) : PE3 X (.UnaryOp .Not a pos) (nv3 ta) :=
  pe_imp (pe_not ha) fun _ _ _ ⟨σ3, H3, Q3, sr, hr, t, k⟩ => ⟨σ3, H3, _, sr, hr, t, fun x v H3a Ha tka hra rx qa => by
    cases rx with
    | bl c => exact ⟨c, rfl, k _ _ _ _ tka hra (.bl _) qa⟩
    | _ => exact qa.elim⟩
def if3 (t : TT3) (ta tb : TE3) : TE3 := fun σ H Q => t σ H fun c H1 => if c = true then ta σ H1 Q else tb σ H1 Q
/-! ### argument lists, tuples, lists -/
def nil3 : TA3 := fun _ H Q => Q [] H
def cons3 (ta : TE3) (tr : TA3) : TA3 := fun σ H Q => ta σ H fun x H1 => tr σ H1 fun xs H2 => Q (x :: xs) H2
theorem a3_nil : PA3 X [] nil3 := pa_imp pa_nil fun _ _ _ ⟨_, _, _, _, hr, t, k⟩ => k _ _ _ _ TK.refl hr .nil t
theorem a3_cons (ha : PE3 X e te) (hr : PA3 X es tr) (hs : starEach (e :: es) X.env = (false, eval e X.env) :: starEach es X.env := by rfl) : PA3 X (e :: es) (cons3 te tr) :=
  pa_imp (pa_cons ha hr hs) fun _ _ _ ⟨σ3, H3, Q3, sr, hr, t, k⟩ => ⟨σ3, H3, _, sr, hr, t, fun x v H3a Ha tka hra rx qa => ⟨σ3, H3a, _, sr.mono tka, hra, qa, fun ds vs H3b Hb tkb hrb rs qb =>
    k _ _ _ _ (tka.trans tkb) hrb (.cons (rx.mono tkb) rs) qb⟩⟩
def tp3 (t : TA3) : TE3 := fun σ H Q => t σ H fun ds H1 => ds.length ≤ 1000 ∧ Q (.tup ds) H1
def ls3 (t : TA3) : TE3 := fun σ H Q => t σ H fun ds H1 => ds.length ≤ 1000 ∧ ∀ p, H1 p = none → Q (.ref p) (upd3 H1 p (.lst ds))
theorem le_line {n : Nat} (h : n ≤ 1000) : n ≤ sizeLine := Nat.le_of_lt (small1000 h)
theorem p3_tup {x1 : Nat} (h : PA3 X es tr) : PE3 X (.Tuple es x1 pos) (tp3 tr) :=
  pe_imp (pe_tup h) fun _ _ _ ⟨σ3, H3, Q3, sr, hr, t, k⟩ => ⟨σ3, H3, _, sr, hr, t, fun ds vs H3a Ha tka hra rs qa =>
    ⟨by rw [← rs.length]; exact le_line qa.1, fun p n => k _ _ _ _ (tka.trans (TK.fresh n)) (hra.tup n) (.tup upd_same (rs.mono (TK.fresh n))) qa.2⟩⟩
theorem p3_lst (h : PA3 X es tr) : PE3 X (.List es pos) (ls3 tr) :=
  pe_imp (pe_lst h) fun _ _ _ ⟨σ3, H3, Q3, sr, hr, t, k⟩ => ⟨σ3, H3, _, sr, hr, t, fun ds vs H3a Ha tka hra rs qa =>
    ⟨by rw [← rs.length]; exact le_line qa.1, fun p n => k _ _ _ _ (tka.trans (TK.fresh n)) (hra.setL (TK.fresh n) (rs.mono (TK.fresh n))) (.ref p) (qa.2 p (hra.fresh n))⟩⟩
end

/-! ### operations -/
section
variable {X : Cx}
/-- the tuple lists that + and others want short -/
def r3add : R3 := fun x y H Q => match x, y with
  | .int i, .int j => Q (.int (i + j)) H
  | .str i, .str j => i.length + j.length ≤ sizeLine ∧ Q (.str (i ++ j)) H
  | .ref a, .ref b => (match H a, H b with
    | some (.lst xs), some (.lst ys) => xs.length + ys.length ≤ sizeLine ∧ ∀ p, H p = none → Q (.ref p) (upd3 H p (.lst (xs ++ ys)))
    | _, _ => False)
  | _, _ => False
theorem op3_add : OpR X (binaryOp .Add) (lift2 X.K r3add) := by
  intro pins s σ H x y v u Q I rx ry h
  obtain ⟨dx, dy, H3, Q3, hr, rdx, rdy, t, k⟩ := h
  cases rdx with
  | int i =>
    cases rdy with
    | int j => exact op_add pins s σ H _ _ v u Q I rx ry ⟨i, j, rfl, rfl, k _ _ _ _ TK.refl hr (.int _) t⟩
    | _ => exact t.elim
  | str i =>
    cases rdy with
    | str j => exact op_add_str pins s σ H _ _ v u Q I rx ry ⟨i, j, rfl, rfl, t.1, k _ _ _ _ TK.refl hr (.str _) t.2⟩
    | _ => exact t.elim
  | ref a =>
    cases rdy with
    | ref b =>
      simp only [r3add] at t
      split at t
      · rename_i xs ys ha hb
        obtain ⟨vs, ga, ra⟩ := hr a _ ha
        obtain ⟨us, gb, rb⟩ := hr b _ hb
        exact op_cat pins s σ H _ _ v u Q I rx ry ⟨a, b, vs, us, rfl, rfl, ga, gb, by rw [← ra.length, ← rb.length]; exact t.1, fun p n =>
          k _ _ _ _ (TK.fresh n) (hr.setL (TK.fresh n) ((ra.append rb).mono (TK.fresh n))) (.ref p) (t.2 p (hr.fresh n))⟩
      · exact t.elim
    | _ => exact t.elim
  | _ => exact t.elim
/-- two ints -/
def rI3 (C : Int → Int → Prop) (g : Int → Int → D) : R3 := fun x y H Q => match x, y with
  | .int i, .int j => C i j ∧ Q (g i j) H
  | _, _ => False
def rI30 (g : Int → Int → D) : R3 := fun x y H Q => match x, y with
  | .int i, .int j => Q (g i j) H
  | _, _ => False
theorem op3_of0 {f : Value → Value → Sem Value} {g : Int → Int → V} {g3 : Int → Int → D} (h : OpR X f (rI0 g)) (e : ∀ H i j, Rep X.K H (g3 i j) (g i j)) : OpR X f (lift2 X.K (rI30 g3)) := by
  intro pins s σ H x y v u Q I rx ry q
  obtain ⟨dx, dy, H3, Q3, hr, rdx, rdy, t, k⟩ := q
  cases rdx with
  | int i =>
    cases rdy with
    | int j => exact h pins s σ H _ _ v u Q I rx ry ⟨i, j, rfl, rfl, k _ _ _ _ TK.refl hr (e _ i j) t⟩
    | _ => exact t.elim
  | _ => exact t.elim
theorem op3_of {f : Value → Value → Sem Value} {C : Int → Int → Prop} {g : Int → Int → V} {g3 : Int → Int → D} (h : OpR X f (rI C g)) (e : ∀ H i j, Rep X.K H (g3 i j) (g i j)) : OpR X f (lift2 X.K (rI3 C g3)) := by
  intro pins s σ H x y v u Q I rx ry q
  obtain ⟨dx, dy, H3, Q3, hr, rdx, rdy, t, k⟩ := q
  cases rdx with
  | int i =>
    cases rdy with
    | int j => exact h pins s σ H _ _ v u Q I rx ry ⟨i, j, rfl, rfl, t.1, k _ _ _ _ TK.refl hr (e _ i j) t.2⟩
    | _ => exact t.elim
  | _ => exact t.elim
theorem op3_sub : OpR X (binaryOp .Sub) (lift2 X.K (rI30 fun i j => .int (i - j))) := op3_of0 op_sub fun _ _ _ => .int _
theorem op3_mod : OpR X (binaryOp .Mod) (lift2 X.K (rI3 (fun _ j => 0 < j) fun i j => .int (i % j))) := op3_of op_mod fun _ _ _ => .int _
theorem op3_pow : OpR X (binaryOp .Pow) (lift2 X.K (rI3 CPow fun i j => .int (i ^ j.toNat))) := op3_of op_pow fun _ _ _ => .int _
theorem op3_ge : OpR X (compareOp .GtE) (lift2 X.K (rI30 fun i j => .bl (decide (j ≤ i)))) := op3_of0 op_ge fun _ _ _ => .bl _
/-- the ints of a tuple of ints -/
def intsOf : List D → Option (List Int)
  | [] => some []
  | .int i :: ds => (intsOf ds).map (i :: ·)
  | _ :: _ => none
theorem intsOf_inv : ∀ {ds : List D} {ns : List Int}, intsOf ds = some ns → ds = ns.map D.int
  | [], _, h => by simp only [intsOf, Option.some.injEq] at h; subst h; rfl
  | .int i :: ds, ns, h => by
    simp only [intsOf, Option.map_eq_some_iff] at h
    obtain ⟨ms, h1, h2⟩ := h
    subst h2
    rw [intsOf_inv h1]; rfl
  | .non :: _, _, h => by simp [intsOf] at h
  | .bl _ :: _, _, h => by simp [intsOf] at h
  | .str _ :: _, _, h => by simp [intsOf] at h
  | .tup _ :: _, _, h => by simp [intsOf] at h
  | .fl _ :: _, _, h => by simp [intsOf] at h
  | .ktup _ :: _, _, h => by simp [intsOf] at h
  | .ref _ :: _, _, h => by simp [intsOf] at h
  | .ty _ :: _, _, h => by simp [intsOf] at h
def r3lt : R3 := fun x y H Q => match x, y with
  | .int i, .int j => Q (.bl (decide (i < j))) H
  | .tup xs, .tup ys => (match intsOf xs, intsOf ys with
    | some ns, some ms => Q (.bl (HT.lexLt ns ms)) H
    | _, _ => False)
  | _, _ => False
theorem op3_lt (hu : X.A.units < cLine) : OpR X (compareOp .Lt) (lift2 X.K r3lt) := by
  intro pins s σ H x y v u Q I rx ry h
  obtain ⟨dx, dy, H3, Q3, hr, rdx, rdy, t, k⟩ := h
  cases rdx with
  | int i =>
    cases rdy with
    | int j => exact op_lt pins s σ H _ _ v u Q I rx ry ⟨i, j, rfl, rfl, k _ _ _ _ TK.refl hr (.bl _) t⟩
    | _ => exact t.elim
  | tup ha ra =>
    cases rdy with
    | tup hb rb =>
      simp only [r3lt] at t
      split at t
      · rename_i ns ms e1 e2
        have z1 := intsOf_inv e1
        have z2 := intsOf_inv e2
        subst z1; subst z2
        have w1 := ra.ints_inv
        have w2 := rb.ints_inv
        subst w1; subst w2
        exact op_ltT hu pins s σ H _ _ v u Q I rx ry ⟨_, _, ns, ms, rfl, rfl, SqT.of ha, SqT.of hb, k _ _ _ _ TK.refl hr (.bl _) t⟩
      · exact t.elim
    | _ => exact t.elim
  | _ => exact t.elim
def r3neg : D → Hp3 → VK3 → Prop := fun x H Q => match x with
  | .int i => Q (.int (-i)) H
  | _ => False
theorem un3_neg : UnR X (unaryOp .USub) (lift1 X.K r3neg) := by
  intro pins s σ H x v Q I rx h
  obtain ⟨dx, H3, Q3, hr, rdx, t, k⟩ := h
  cases rdx with
  | int i => exact un_neg pins s σ H _ v Q I rx ⟨i, rfl, k _ _ _ _ TK.refl hr (.int _) t⟩
  | _ => exact t.elim
/-! ### is None -/
def isN : D → Bool
  | .non => true
  | _ => false
def r3isN : R3 := fun x y H Q => match y with
  | .non => Q (.bl (isN x)) H
  | _ => False
def r3notN : R3 := fun x y H Q => match y with
  | .non => Q (.bl (!isN x)) H
  | _ => False
theorem isN_rep {K : PySem.W.Frag} {H : Hp} {d : D} {v : V} (r : Rep K H d v) : decide (v = .non) = isN d := by
  cases r with
  | non => rfl
  | _ => exact decide_eq_false (by intro z; cases z)
theorem op3_notN : OpR X (compareOp .IsNot) (lift2 X.K r3notN) := by
  intro pins s σ H x y v u Q I rx ry h
  obtain ⟨dx, dy, H3, Q3, hr, rdx, rdy, t, k⟩ := h
  cases rdy with
  | non => exact op_notN pins s σ H _ _ v u Q I rx ry ⟨rfl, by rw [isN_rep rdx]; exact k _ _ _ _ TK.refl hr (.bl _) t⟩
  | _ => exact t.elim

/-! ### subscripts -/
theorem atI_rep {K : PySem.W.Frag} {H : Hp} {ds : List D} {vs : List V} {i : Int} {d : D} (r : RepL K H ds vs) (h : atI ds i = some d) : ∃ v, atI vs i = some v ∧ Rep K H d v := by
  unfold atI at h ⊢
  rw [r.length] at h
  cases e : ixN vs.length i with
  | none => rw [e] at h; cases h
  | some j =>
    rw [e] at h
    exact r.get h
def r3ix : R3 := fun x y H Q => match x, y with
  | .tup ds, .int i => (match atI ds i with | some d => Q d H | none => False)
  | .fl ds, .int i => (match atI ds i with | some d => Q d H | none => False)
  | .ktup ds, .int i => (match atI ds i with | some d => Q d H | none => False)
  | .str z, .int i => z.length ≤ sizeLine ∧ (match atI z.cps.toList i with | some c => Q (.str ⟨#[c]⟩) H | none => False)
  | .ref a, .int i => (match H a with
    | some (.lst ds) => (match atI ds i with | some d => Q d H | none => False)
    | _ => False)
  | _, _ => False
theorem ix3 : IxR X (lift2 X.K r3ix) := by
  intro value slice pins s σ H x y v u Q I rx ry h hs
  obtain ⟨dx, dy, H3, Q3, hr, rdx, rdy, t, k⟩ := h
  cases rdx with
  | tup ha ra =>
    cases rdy with
    | int i =>
      simp only [r3ix] at t
      split at t
      · rename_i d e
        obtain ⟨w, ew, rw'⟩ := atI_rep ra e
        exact ix_tup value slice pins s σ H _ _ v u Q I rx ry ⟨_, _, i, w, rfl, rfl, SqT.of ha, ew, k _ _ _ _ TK.refl hr rw' t⟩ hs
      · exact t.elim
    | _ => exact t.elim
  | ktup ha ra =>
    cases rdy with
    | int i =>
      simp only [r3ix] at t
      split at t
      · rename_i d e
        obtain ⟨w, ew, rw'⟩ := atI_rep ra e
        exact ix_tup value slice pins s σ H _ _ v u Q I rx ry ⟨_, _, i, w, rfl, rfl, ha.sq, ew, k _ _ _ _ TK.refl hr rw' t⟩ hs
      · exact t.elim
    | _ => exact t.elim
  | fl ha ra =>
    cases rdy with
    | int i =>
      simp only [r3ix] at t
      split at t
      · rename_i d e
        obtain ⟨w, ew, rw'⟩ := atI_rep ra e
        exact ix_list value slice pins s σ H _ _ v u Q I rx ry ⟨_, _, i, w, rfl, rfl, ha.sq, ew, k _ _ _ _ TK.refl hr rw' t⟩ hs
      · exact t.elim
    | _ => exact t.elim
  | str z =>
    cases rdy with
    | int i =>
      simp only [r3ix] at t
      obtain ⟨hz, t⟩ := t
      split at t
      · rename_i c e
        exact ix_str value slice pins s σ H _ _ v u Q I rx ry ⟨z, i, c, rfl, rfl, hz, e, k _ _ _ _ TK.refl hr (.str _) t⟩ hs
      · exact t.elim
    | _ => exact t.elim
  | ref a =>
    cases rdy with
    | int i =>
      simp only [r3ix] at t
      split at t
      · rename_i ds ha
        obtain ⟨vs, ga, ra⟩ := hr a _ ha
        split at t
        · rename_i d e
          obtain ⟨w, ew, rw'⟩ := atI_rep ra e
          exact ix_list value slice pins s σ H _ _ v u Q I rx ry ⟨_, _, i, w, rfl, rfl, SqL.of ga, ew, k _ _ _ _ TK.refl hr rw' t⟩ hs
        · exact t.elim
      · exact t.elim
    | _ => exact t.elim
  | _ => exact t.elim

/-! ### slices -/
def cut3 {α : Type} (xs : List α) (lo hi : Option Int) : List α := (xs.drop (HT.sIx xs.length 0 lo)).take (HT.sIx xs.length xs.length hi - HT.sIx xs.length 0 lo)
abbrev TO3 := St3 → Hp3 → (Option Int → Hp3 → Prop) → Prop
def np3 : TO3 := fun _ H Q => Q none H
def pt3 (t : TE3) : TO3 := fun σ H Q => t σ H fun x H1 => match x with
  | .int i => Q (some i) H1
  | _ => False
abbrev RSl := D → Option Int → Option Int → Hp3 → VK3 → Prop
def sl3 (r : RSl) (te : TE3) (tl th : TO3) : TE3 := fun σ H Q => te σ H fun x H1 => tl σ H1 fun l H2 => th σ H2 fun u H3 => r x l u H3 Q
def r3sl : RSl := fun x lo hi H Q => match x with
  | .fl ds => ∀ p, H p = none → Q (.ref p) (upd3 H p (.lst (cut3 ds lo hi)))
  | .ref a => (match H a with
    | some (.lst ds) => ∀ p, H p = none → Q (.ref p) (upd3 H p (.lst (cut3 ds lo hi)))
    | _ => False)
  | _ => False
/-! ### calls of built-ins -/
def cb3 (r : List D → Hp3 → VK3 → Prop) (t : TA3) : TE3 := fun σ H Q => t σ H fun ds H1 => r ds H1 Q
theorem lift_cb {K : PySem.W.Frag} {r : List D → Hp3 → VK3 → Prop} {t : TA3} {σ : St} {H : Hp} {Q : VK} (h : liftE K (cb3 r t) σ H Q) : tCB (liftC K r) (liftA K t) σ H Q := by
  obtain ⟨σ3, H3, Q3, sr, hr, t, k⟩ := h
  exact ⟨σ3, H3, _, sr, hr, t, fun ds vs H3a Ha tka hra rs qa => ⟨ds, H3a, Q3, hra, rs, qa, k.mono tka⟩⟩
theorem p3_callB {x : Str} {p pos : Pos} {e : Expr} {es : List Expr} {t : TA3} {id : String} {r : List D → Hp3 → VK3 → Prop} (hc : CallR X (.builtin id) (liftC X.K r)) (hg : Gl X x) (hm : X.mg x = none) (hv : bootBuiltins x = some (.builtin id)) (ha : PA3 X (e :: es) t)
    (hn : x ≠ "__name__" := by decide) (hdb : (x == ("__debug__" : Str)) = false := by decide)
    (he : starEach (e :: es) X.env = (false, eval e X.env) :: starEach es X.env := by rfl) (hpl : (backTo pos (starEach es X.env)).any (·.1) = false := by rfl) : PE3 X (.Call (.Name x p) (e :: es) [] pos) (cb3 r t) :=
  pe_imp (pe_callB hc hg hm hv ha hn hdb he hpl) fun _ _ _ h => lift_cb h
theorem p3_callTy {x : Str} {p pos : Pos} {e : Expr} {es : List Expr} {t : TA3} {T : String} {r : List D → Hp3 → VK3 → Prop} (hc : CallR X (.type T) (liftC X.K r)) (hg : Gl X x) (hm : X.mg x = none) (hv : bootBuiltins x = some (.type T)) (ha : PA3 X (e :: es) t)
    (hn : x ≠ "__name__" := by decide) (hdb : (x == ("__debug__" : Str)) = false := by decide)
    (he : starEach (e :: es) X.env = (false, eval e X.env) :: starEach es X.env := by rfl) (hpl : (backTo pos (starEach es X.env)).any (·.1) = false := by rfl) : PE3 X (.Call (.Name x p) (e :: es) [] pos) (cb3 r t) :=
  pe_imp (pe_callTy hc hg hm hv ha hn hdb he hpl) fun _ _ _ h => lift_cb h
def r3len : List D → Hp3 → VK3 → Prop := fun ds H Q => match ds with
  | [.tup xs] => Q (.int xs.length) H
  | [.fl xs] => Q (.int xs.length) H
  | [.str z] => z.length ≤ sizeLine ∧ Q (.int z.length) H
  | [.ref a] => (match H a with
    | some (.lst xs) => Q (.int xs.length) H
    | _ => False)
  | _ => False
theorem cb3_len : CallR X (.builtin "len") (liftC X.K r3len) := by
  intro pins s σ H xs us Q I rs h
  obtain ⟨ds, H3, Q3, hr, rd, t, k⟩ := h
  cases rd with
  | nil => exact t.elim
  | cons r1 r2 =>
    cases r2 with
    | cons _ _ => cases r1 <;> exact t.elim
    | nil =>
      cases r1 with
      | tup ha ra => exact call_len_seq pins s σ H _ us Q I rs ⟨_, _, rfl, .inr (SqT.of ha), by rw [← ra.length]; exact k _ _ _ _ TK.refl hr (.int _) t⟩
      | fl ha ra => exact call_len_seq pins s σ H _ us Q I rs ⟨_, _, rfl, .inl ha.sq, by rw [← ra.length]; exact k _ _ _ _ TK.refl hr (.int _) t⟩
      | str z => exact call_len_str pins s σ H _ us Q I rs ⟨_, rfl, t.1, k _ _ _ _ TK.refl hr (.int _) t.2⟩
      | ref a =>
        simp only [r3len] at t
        split at t
        · rename_i ds ha
          obtain ⟨vs, ga, ra⟩ := hr a _ ha
          exact call_len_seq pins s σ H _ us Q I rs ⟨_, _, rfl, .inl (SqL.of ga), by rw [← ra.length]; exact k _ _ _ _ TK.refl hr (.int _) t⟩
        · exact t.elim
      | _ => exact t.elim
def r3tuple : List D → Hp3 → VK3 → Prop := fun ds H Q => match ds with
  | [.tup xs] => Q (.tup xs) H
  | [.fl xs] => Q (.tup xs) H
  | [.ref a] => (match H a with
    | some (.lst xs) => Q (.tup xs) H
    | _ => False)
  | _ => False
def r3list : List D → Hp3 → VK3 → Prop := fun ds H Q => match ds with
  | [.tup xs] => ∀ p, H p = none → Q (.ref p) (upd3 H p (.lst xs))
  | [.fl xs] => ∀ p, H p = none → Q (.ref p) (upd3 H p (.lst xs))
  | [.ref a] => (match H a with
    | some (.lst xs) => ∀ p, H p = none → Q (.ref p) (upd3 H p (.lst xs))
    | _ => False)
  | _ => False
theorem cb3_list : CallR X (.type "list") (liftC X.K r3list) := by
  intro pins s σ H xs us Q I rs h
  obtain ⟨ds, H3, Q3, hr, rd, t, k⟩ := h
  have fin : ∀ {ds : List D} {vs : List V}, RepL X.K H ds vs → (∀ p, H3 p = none → Q3 (.ref p) (upd3 H3 p (.lst ds))) → ∀ l, H l = none → Q (.ref l) (upd H l (.lst vs)) := fun ra q l n =>
    k _ _ _ _ (TK.fresh n) (hr.setL (TK.fresh n) (ra.mono (TK.fresh n))) (.ref l) (q l (hr.fresh n))
  cases rd with
  | nil => exact t.elim
  | cons r1 r2 =>
    cases r2 with
    | cons _ _ => cases r1 <;> exact t.elim
    | nil =>
      cases r1 with
      | tup ha ra => exact call_list_of pins s σ H _ us Q I rs ⟨_, _, rfl, .inr (SqT.of ha), fin ra t⟩
      | fl ha ra => exact call_list_of pins s σ H _ us Q I rs ⟨_, _, rfl, .inl ha.sq, fin ra t⟩
      | ref a =>
        simp only [r3list] at t
        split at t
        · rename_i ds ha
          obtain ⟨vs, ga, ra⟩ := hr a _ ha
          exact call_list_of pins s σ H _ us Q I rs ⟨_, _, rfl, .inl (SqL.of ga), fin ra t⟩
        · exact t.elim
      | _ => exact t.elim
end
end L3

namespace L3
open PySem PySem.Spec PyProof.Rows L2
/-! ### ranges of any numbers -/
theorem turn_long {P : Program} {w : World} {K : PySem.W.Frag} {tg : Expr} (it : Addr) (lo : Int) (n : Nat) : Turn P w K tg (Itr lo n) [it] it (fun i h => IsLongIter h it (lo + (i : Nat) * 1) ((n : Int) - (i : Nat)) 1) where
  mem := List.mem_singleton.mpr rfl
  obj := fun i h st b hb => by
    rw [List.mem_singleton.mp hb]
    exact ⟨_, st, fun v z => by have z' : Data.fields _ = Data.cell v := z; cases z'⟩
  keep := fun i h h' st k => k it (List.mem_singleton.mpr rfl) _ st
  item := by
    intro X hP hw hK hc i pins s σ H E I hf st hg
    subst hP hw hK
    obtain ⟨f0, f1, f2, f3, f4, f5⟩ := hf it (List.mem_singleton.mpr rfl)
    have hlt : i < n := hg
    refine wpAny_pyNext_long_item st (by omega) fun h' st' sb => ?_
    have I1 : Inv X pins σ H { s with heap := h', toks := s.toks + 1 } := I.turned (fun b o hb e => (sb.2 b hb).trans e) f0 f1 f3 f4 f5
    have st2 : IsLongIter h' it (lo + ((i + 1 : Nat) : Int) * 1) ((n : Int) - ((i + 1 : Nat) : Int)) 1 := by
      have e1 : lo + (i : Int) * 1 + 1 = lo + ((i + 1 : Nat) : Int) * 1 := by omega
      have e2 : (n : Int) - (i : Int) - 1 = (n : Int) - ((i + 1 : Nat) : Int) := by omega
      rw [← e1, ← e2]; exact st'
    exact ⟨_, rfl, go_of (s := { s with heap := h', toks := s.toks + 1 }) (n := "longrange_iterator") st2 rfl rfl (by decide) ⟨.int (lo + i), H, I1, ⟨s.toks, by rw [Int.mul_one]⟩, ⟨rfl, rfl⟩, st2, fun b hb => (hf b hb).1⟩⟩
  done := by
    intro X hP hw hK hc i pins s σ H E I hf st hg
    subst hP hw hK
    obtain ⟨f0, f1, f2, f3, f4, f5⟩ := hf it (List.mem_singleton.mpr rfl)
    have hle : n ≤ i := hg
    exact wpAny_pyNext_long_end (I.ok.hd hc) st (by omega) fun h' eb => ⟨rfl, I.turned (t' := s.toks) (fun b o hb e => eb b o hb e) f0 f1 f3 f4 f5⟩
  self := fun _ _ _ _ _ st h => wpAny_pyIter_longiter st h
section
variable {X : Cx} {tg : Expr}
theorem range_any {pins : List (Addr × Obj)} {σ : St} {H : Hp} {s : Shared} {R : It → Hp → Prop} {E : Value → Shared → Prop} {lo hi : Int} {t u v : Tok} {tk : Nat} (I : Inv X pins σ H s) (q : R (Itr lo (hi - lo).toNat) H) :
    wpAny (model X.prog X.w) X.A (pyIter (.ref s.heap.objs.size)) (PIE X pins σ tg R) E { s with heap := s.heap.push { cls := .type "range", data := .fields #[.int lo t, .int hi u, .int 1 v] }, toks := tk } := by
  have I1 : Inv X pins σ H { s with heap := s.heap.push { cls := .type "range", data := .fields #[.int lo t, .int hi u, .int 1 v] }, toks := tk } := I.kept fun b o e => Heap.get?_push_of_some _ e
  have e2 : (((hi - lo).toNat : Nat) : Int) - ((0 : Nat) : Int) = Builtin.Range.rangeSize lo hi 1 := by rw [rangeSize_one]; split <;> omega
  have e1 : lo + ((0 : Nat) : Int) * 1 = lo := by omega
  have hf : ∀ b ∈ [(s.heap.push { cls := .type "range", data := .fields #[.int lo t, .int hi u, .int 1 v] }).objs.size], FpOk X pins H b := fun b hb => by
    rw [List.mem_singleton.mp hb]
    exact I1.fpOk (Nat.le_refl _) (I1.hok.fresh (Nat.le_refl _))
  cases hs : Builtin.Range.small lo hi 1 with
  | true =>
    refine wpAny_pyIter_range (IsRange.new ..) hs ⟨_, _, _, _, H, rfl, I1.kept (t' := tk) fun b o e => Heap.get?_push_of_some _ e, turn_range _ lo (hi - lo).toNat, ?_, hf, q⟩
    show IsRangeIter _ _ (lo + ((0 : Nat) : Int) * 1) ((((hi - lo).toNat : Nat) : Int) - ((0 : Nat) : Int)) 1
    rw [e1, e2]
    exact Heap.get?_push_size _ rfl
  | false =>
    refine wpAny_pyIter_longrange (IsRange.new ..) hs ⟨_, _, _, _, H, rfl, I1.kept (t' := tk) fun b o e => Heap.get?_push_of_some _ e, turn_long _ lo (hi - lo).toNat, ?_, hf, q⟩
    show IsLongIter _ _ (lo + ((0 : Nat) : Int) * 1) ((((hi - lo).toNat : Nat) : Int) - ((0 : Nat) : Int)) 1
    rw [e1, e2]
    exact Heap.get?_push_size _ rfl
def jRng1 (ta : TA) : TI := fun σ H R => ta σ H fun vs H1 => ∃ j : Int, vs = [.int j] ∧ R (Itr 0 j.toNat) H1
theorem pj_range1 {a : Expr} {ta : TA} {p pos : Pos} (hg : Gl X "range") (hm : X.mg "range" = none) (ha : PA X [a] ta) (hs : starEach [a] X.env = [(false, eval a X.env)] := by rfl) : PI X tg (.Call (.Name "range" p) [a] [] pos) (jRng1 ta) := by
  intro pins s σ H R I h
  refine Call_ (ld_blt I hg hm boot_range (PyProof.Rows.callWith_type1 (thn (ha pos pins s σ H _ I h) fun us s1 ⟨vs, H1, I1, r1, j, e, q⟩ => ?_) hs rfl))
  subst e
  obtain ⟨u, rfl, t, rfl⟩ := vals1 r1
  exact call_range_1 (range_any I1 (by simpa using q))
end
end L3

namespace L3
open PySem PySem.Spec PyProof.Rows L2
section
variable {X : Cx} {st : Stmt} {rest : List Stmt} {t u : TS3} {e : Expr} {te : TE3} {pos : Pos}
/-! ### statements -/
def nx3 : TS3 := fun D σ H => D.nx σ H
def sq3 (t u : TS3) : TS3 := fun D σ H => t { D with nx := u D } σ H
theorem s3_nil : PSs3 X [] nx3 := pss_imp pss_nil fun _ _ _ ⟨_, _, _, sr, hr, t, k⟩ => k.nx _ _ _ _ TK.refl sr hr t
theorem s3_cons (h1 : PS3 X st t) (h2 : PSs3 X rest u) : PSs3 X (st :: rest) (sq3 t u) :=
  pss_imp (pss_cons h1 h2) fun _ _ _ ⟨σ3, H3, D3, sr, hr, q, k⟩ => ⟨σ3, H3, { D3 with nx := u D3 }, sr, hr, q,
    ⟨fun σ3' σ' H3' H' tk sr' hr' q' => ⟨σ3', H3', D3, sr', hr', q', k.mono tk⟩, k.rt, k.bk, k.ct⟩⟩
theorem s3_one (h1 : PS3 X st t) : PSs3 X [st] t := pss_one h1
def br3 : TS3 := fun D σ H => D.bk σ H
def co3 : TS3 := fun D σ H => D.ct σ H
def dr3 (te : TE3) : TS3 := fun D σ H => te σ H fun _ H1 => D.nx σ H1
theorem s3_expr (he : PE3 X e te) (hs : swapsWith e none pos.line X.env = pure false := by rfl) : PS3 X (.Expr e pos) (dr3 te) :=
  ps_imp (ps_expr he hs) fun _ _ _ ⟨σ3, H3, D3, sr, hr, t, k⟩ => ⟨σ3, H3, _, sr, hr, t, fun x v H3a Ha tka hra rx qa => k.nx _ _ _ _ tka (sr.mono tka) hra qa⟩
def rt3 (te : TE3) : TS3 := fun D σ H => te σ H D.rt
theorem s3_ret (he : PE3 X e te) : PS3 X (.Return (some e) pos) (rt3 te) :=
  ps_imp (ps_ret he) fun _ _ _ ⟨σ3, H3, D3, sr, hr, t, k⟩ => ⟨σ3, H3, _, sr, hr, t, k.rt⟩
def rn3 : TS3 := fun D _ H => D.rt .non H
def is3 (c : TT3) (t u : TS3) : TS3 := fun D σ H => c σ H fun b H1 => if b = true then t D σ H1 else u D σ H1
theorem s3_if {c : Expr} {a b : List Stmt} {tc : TT3} (hc : PT3 X c tc) (ha : PSs3 X a t) (hb : PSs3 X b u) : PS3 X (.If c a b pos) (is3 tc t u) :=
  ps_imp (ps_if hc ha hb) fun _ _ _ ⟨σ3, H3, D3, sr, hr, q, k⟩ => ⟨σ3, H3, _, sr, hr, q, fun b H3a Ha tka hra qa => by
    cases b with
    | true => exact ⟨σ3, H3a, D3, sr.mono tka, hra, qa, k.mono tka⟩
    | false => exact ⟨σ3, H3a, D3, sr.mono tka, hra, qa, k.mono tka⟩⟩
def st3 (i : Nat) (te : TE3) : TS3 := fun D σ H => te σ H fun x H1 => D.nx (σ.set i (some x)) H1
theorem s3_set (i : Nat) {x : Str} {pos' : Pos} (hN : X.N.Nodup) (he : PE3 X e te) (hi : X.N[i]? = some x := by rfl) (hx : Loc X.env.scope x := by first | exact Or.inl rfl | exact Or.inr rfl) (hs : swapsWith e (some (.Name x pos')) pos.line X.env = pure false := by rfl)
    (hf : X.fn x = true ∨ X.env.scope.names.lookup x = some .local := by first | exact .inl rfl | exact .inr rfl | assumption) : PS3 X (.Assign [.Name x pos'] e pos) (st3 i te) :=
  ps_imp (ps_set hN hi hx he hs hf) fun _ _ _ ⟨σ3, H3, D3, sr, hr, t, k⟩ => ⟨σ3, H3, _, sr, hr, t, fun x v H3a Ha tka hra rx qa => k.nx _ _ _ _ tka ((sr.mono tka).set i rx) hra qa⟩

/-! ### targets -/
abbrev TG3 := D → St3 → Hp3 → (St3 → Hp3 → Prop) → Prop
def liftG (K : PySem.W.Frag) (t : TG3) : TG := fun v σ H Q => ∃ d σ3 H3 Q3, Rep K H d v ∧ SR K H σ3 σ ∧ HR K H3 H ∧ t d σ3 H3 Q3 ∧ KN K H Q3 Q
def PG3 (X : Cx) (tg : Expr) (t : TG3) : Prop := PG X tg (liftG X.K t)
theorem pg_imp {tg : Expr} {t t' : TG} (h : PG X tg t) (i : ∀ v σ H Q, t' v σ H Q → t v σ H Q) : PG X tg t' := fun pins s σ H v u Q I r hw => h pins s σ H v u Q I r (i v σ H Q hw)
def gn3 (i : Nat) : TG3 := fun d σ H Q => Q (σ.set i (some d)) H
theorem g3_name (i : Nat) {x : Str} (hN : X.N.Nodup) (hi : X.N[i]? = some x := by rfl) (hx : Loc X.env.scope x := by first | exact Or.inl rfl | exact Or.inr rfl) (hf : X.fn x = true ∨ X.env.scope.names.lookup x = some .local := by first | exact .inl rfl | exact .inr rfl | assumption) :
    PG3 X (.Name x pos) (gn3 i) := pg_imp (pg_name hN hi hx hf) fun _ _ _ _ ⟨d, σ3, H3, Q3, rd, sr, hr, t, k⟩ => k _ _ _ _ TK.refl (sr.set i rd) hr t
def g2_3 (i j : Nat) : TG3 := fun d σ H Q => match d with
  | .tup [x, y] => Q ((σ.set i (some x)).set j (some y)) H
  | _ => False
def g3_3 (i j l : Nat) : TG3 := fun d σ H Q => match d with
  | .tup [x, y, z] => Q (((σ.set i (some x)).set j (some y)).set l (some z)) H
  | _ => False
theorem g3_three (i j l : Nat) {x y z : Str} {p1 p2 p3 : Pos} {kk : Nat} (hc : X.calm = true) (hN : X.N.Nodup) (hi : X.N[i]? = some x := by rfl) (hx : Loc X.env.scope x := by first | exact Or.inl rfl | exact Or.inr rfl) (hj : X.N[j]? = some y := by rfl) (hy : Loc X.env.scope y := by first | exact Or.inl rfl | exact Or.inr rfl)
    (hl : X.N[l]? = some z := by rfl) (hz : Loc X.env.scope z := by first | exact Or.inl rfl | exact Or.inr rfl)
    (hf : X.fn x = true ∨ X.env.scope.names.lookup x = some .local := by first | exact .inl rfl | exact .inr rfl | assumption) (hf' : X.fn y = true ∨ X.env.scope.names.lookup y = some .local := by first | exact .inl rfl | exact .inr rfl | assumption)
    (hf'' : X.fn z = true ∨ X.env.scope.names.lookup z = some .local := by first | exact .inl rfl | exact .inr rfl | assumption) :
    PG3 X (.Tuple [.Name x p1, .Name y p2, .Name z p3] kk pos) (g3_3 i j l) :=
  pg_imp (pg_tup (n := 3) hc (pgs_cons (pg_name hN hi hx hf) (pgs_cons (pg_name hN hj hy hf') (pgs_cons (pg_name hN hl hz hf'') pgs_nil)))) fun v σ H Q ⟨d, σ3, H3, Q3, rd, sr, hr, t, k⟩ => by
    cases rd with
    | tup ha ra =>
      cases ra with
      | nil => exact t.elim
      | cons r1 ra =>
        cases ra with
        | nil => exact t.elim
        | cons r2 ra =>
          cases ra with
          | nil => exact t.elim
          | cons r3 ra =>
            cases ra with
            | cons _ _ => exact t.elim
            | nil => exact ⟨_, _, rfl, SqT.of ha, rfl, _, _, rfl, _, _, rfl, _, _, rfl, rfl, k _ _ _ _ TK.refl (((sr.set i r1).set j r2).set l r3) hr t⟩
    | _ => exact t.elim
def as3 (te : TE3) (g : TG3) : TS3 := fun D σ H => te σ H fun x H1 => g x σ H1 D.nx
theorem s3_asg {tg : Expr} {g : TG3} (he : PE3 X e te) (hg : PG3 X tg g) (hs : swapsWithSole [tg] e pos.line X.env = pure false := by rfl) (hw : swappedStores [tg] e X.env = pure none := by rfl)
    (h1 : (assignEach [tg] X.env).map (·.2) = [assign tg X.env] := by rfl) : PS3 X (.Assign [tg] e pos) (as3 te g) :=
  ps_imp (ps_asg he hg hs hw h1) fun _ _ _ ⟨σ3, H3, D3, sr, hr, t, k⟩ => ⟨σ3, H3, _, sr, hr, t, fun x v H3a Ha tka hra rx qa => ⟨x, σ3, H3a, _, rx, sr.mono tka, hra, qa, k.nx.mono tka⟩⟩

/-! ### while -/
def wh3 (c : TT3) (tb : TS3) : TS3 := fun D σ H => ∃ (P : St3 → Hp3 → Prop) (μ : St3 → Hp3 → Nat), P σ H ∧ ∀ σ H, P σ H →
  c σ H fun b H1 => if b = true then tb { D with nx := fun σ' H' => P σ' H' ∧ μ σ' H' < μ σ H, ct := fun σ' H' => P σ' H' ∧ μ σ' H' < μ σ H, bk := D.nx } σ H1 else D.nx σ H1
theorem s3_while {c : Expr} {body : List Stmt} {tc : TT3} {tb : TS3} (hp : PassesOwn (model X.prog X.w) X.A X.env X.xe) (hc : PT3 X c tc) (hb : PSs3 X body tb) : PS3 X (.While c body [] pos) (wh3 tc tb) :=
  ps_imp (ps_while hp hc hb) fun D σ H ⟨σ3, H3, D3, sr, hr, t, k⟩ => by
    obtain ⟨P, μ, p0, turn⟩ := t
    refine ⟨fun m σ' H' => ∃ σ3' H3', TK H H' ∧ SR X.K H' σ3' σ' ∧ HR X.K H3' H' ∧ P σ3' H3' ∧ m = μ σ3' H3', ⟨_, σ3, H3, TK.refl, sr, hr, p0, rfl⟩, ?_⟩
    rintro m σ1 H1 ⟨σ31, H31, tk1, sr1, hr1, p1, rfl⟩
    refine ⟨σ31, H31, _, sr1, hr1, turn σ31 H31 p1, fun b H3a Ha tka hra qa => ?_⟩
    cases b with
    | false => exact k.nx _ _ _ _ (tk1.trans tka) (sr1.mono tka) hra qa
    | true =>
      refine ⟨fun σ' H' => ∃ σ3' H3', TK H H' ∧ SR X.K H' σ3' σ' ∧ HR X.K H3' H' ∧ P σ3' H3' ∧ μ σ3' H3' < μ σ31 H31, ?_, ?_⟩
      · rintro σ' H' ⟨σ3', H3', z1, z2, z3, z4, z5⟩
        exact ⟨_, z5, σ3', H3', z1, z2, z3, z4, rfl⟩
      · have kk := k.mono (tk1.trans tka)
        exact ⟨σ31, H3a, _, sr1.mono tka, hra, qa, ⟨fun σ3' σ' H3' H' tk' sr' hr' q' => ⟨σ3', H3', (tk1.trans tka).trans tk', sr', hr', q'.1, q'.2⟩, kk.rt, kk.nx,
          fun σ3' σ' H3' H' tk' sr' hr' q' => ⟨σ3', H3', (tk1.trans tka).trans tk', sr', hr', q'.1, q'.2⟩⟩⟩

/-! ### for -/
/-- what is walked: its items, and what must stay for it -/
abbrev TI3 := St3 → Hp3 → (List D → (Hp3 → Prop) → Hp3 → Prop) → Prop
def ItOk (K : PySem.W.Frag) (H0 : Hp) (ds : List D) (keep : Hp3 → Prop) (J : It) : Prop :=
  ∀ H3 H, TK H0 H → HR K H3 H → keep H3 → (∀ i, i < ds.length → J.go i H ∧ ∀ x H', J.yld i H x H' → TK H H' ∧ HR K H3 H' ∧ ∃ d, ds[i]? = some d ∧ Rep K H' d x) ∧ J.stop ds.length H
def liftI (K : PySem.W.Frag) (t : TI3) : TI := fun σ H R => ∃ σ3 H3 R3, SR K H σ3 σ ∧ HR K H3 H ∧ t σ3 H3 R3 ∧
  ∀ ds keep J H3' H', TK H H' → HR K H3' H' → ItOk K H' ds keep J → R3 ds keep H3' → R J H'
def PI3 (X : Cx) (tg iter : Expr) (t : TI3) : Prop := PI X tg iter (liftI X.K t)
theorem pi_imp {tg iter : Expr} {t t' : TI} (h : PI X tg iter t) (i : ∀ σ H R, t' σ H R → t σ H R) : PI X tg iter t' := fun pins s σ H R I hw => h pins s σ H R I (i σ H R hw)
/-- a list's items -/
def il3 (te : TE3) : TI3 := fun σ H R => te σ H fun x H1 => match x with
  | .ref a => (match H1 a with
    | some (.lst ds) => R ds (fun H' => H' a = some (.lst ds)) H1
    | _ => False)
  | .fl ds => R ds (fun _ => True) H1
  | _ => False
/-- a tuple's items -/
def it3 (te : TE3) : TI3 := fun σ H R => te σ H fun x H1 => match x with
  | .tup ds => R ds (fun _ => True) H1
  | _ => False
theorem itOk_list {K : PySem.W.Frag} {H : Hp} {a : Addr} {ds : List D} : ItOk K H ds (fun H' => H' a = some (.lst ds)) (Itl K a) := fun H3 H' _ hr hk => by
  obtain ⟨vs, ga, ra⟩ := hr a _ hk
  refine ⟨fun i hi => ⟨⟨vs, vs[i]'(by rw [← ra.length]; exact hi), SqL.of ga, by simp⟩, fun x H'' y => ?_⟩, ⟨vs, SqL.of ga, by rw [ra.length]; exact Nat.le_refl _⟩⟩
  obtain ⟨e, y⟩ := y
  subst e
  exact ⟨TK.refl, hr, ra.getV (y vs (SqL.of ga))⟩
theorem itOk_fl {K : PySem.W.Frag} {H : Hp} {a : Addr} {xs : List V} {ds : List D} (ha : FzL K H a xs) (ra : RepL K H ds xs) : ItOk K H ds (fun _ => True) (Itl K a) := fun H3 H' tk hr _ => by
  have hq := (tk.fzL ha).sq
  have ra' := ra.mono tk
  refine ⟨fun i hi => ⟨⟨xs, xs[i]'(by rw [← ra.length]; exact hi), hq, by simp⟩, fun x H'' y => ?_⟩, ⟨xs, hq, by rw [ra.length]; exact Nat.le_refl _⟩⟩
  obtain ⟨e, y⟩ := y
  subst e
  exact ⟨TK.refl, hr, ra'.getV (y xs hq)⟩
theorem itOk_tup {K : PySem.W.Frag} {H : Hp} {a : Addr} {xs : List V} {ds : List D} (ha : SqT K H a xs) (ra : RepL K H ds xs) : ItOk K H ds (fun _ => True) (Itt K a) := fun H3 H' tk hr _ => by
  have hq := tk.sqT ha
  have ra' := ra.mono tk
  refine ⟨fun i hi => ⟨⟨xs, xs[i]'(by rw [← ra.length]; exact hi), hq, by simp⟩, fun x H'' y => ?_⟩, ⟨xs, hq, by rw [ra.length]; exact Nat.le_refl _⟩⟩
  obtain ⟨e, y⟩ := y
  subst e
  exact ⟨TK.refl, hr, ra'.getV (y xs hq)⟩
theorem i3_list {tg : Expr} (h : PE3 X e te) : PI3 X tg e (il3 te) :=
  pi_imp (pi_list h) fun _ _ _ ⟨σ3, H3, R3, sr, hr, t, k⟩ => ⟨σ3, H3, _, sr, hr, t, fun x v H3a Ha tka hra rx qa => by
    cases rx with
    | ref a =>
      simp only [] at qa
      split at qa
      · rename_i ds ha
        obtain ⟨vs, ga, ra⟩ := hra a _ ha
        exact ⟨a, rfl, ⟨vs, SqL.of ga⟩, k _ _ _ _ _ tka hra itOk_list qa⟩
      · exact qa.elim
    | fl ha ra => exact ⟨_, rfl, ⟨_, ha.sq⟩, k _ _ _ _ _ tka hra (itOk_fl ha ra) qa⟩
    | _ => exact qa.elim⟩
theorem i3_tup {tg : Expr} (h : PE3 X e te) : PI3 X tg e (it3 te) :=
  pi_imp (pi_tup h) fun _ _ _ ⟨σ3, H3, R3, sr, hr, t, k⟩ => ⟨σ3, H3, _, sr, hr, t, fun x v H3a Ha tka hra rx qa => by
    cases rx with
    | tup ha ra => exact ⟨_, rfl, ⟨_, SqT.of ha⟩, k _ _ _ _ _ tka hra (itOk_tup (SqT.of ha) ra) qa⟩
    | _ => exact qa.elim⟩
/-- the ints lo, lo + 1, .., n of them -/
def rng (lo : Int) (n : Nat) : List D := (List.range n).map fun (i : Nat) => D.int (lo + (i : Int))
theorem rng_len (lo : Int) (n : Nat) : (rng lo n).length = n := by simp [rng]
theorem rng_get {lo : Int} {n i : Nat} (h : i < n) : (rng lo n)[i]? = some (.int (lo + i)) := by simp [rng, h]
theorem itOk_rng {K : PySem.W.Frag} {H : Hp} {lo : Int} {n : Nat} : ItOk K H (rng lo n) (fun _ => True) (Itr lo n) := fun H3 H' tk hr _ => by
  refine ⟨fun i hi => ?_, ?_⟩
  · rw [rng_len] at hi
    refine ⟨hi, fun x H'' y => ?_⟩
    obtain ⟨e, y⟩ := y
    subst y
    subst e
    exact ⟨TK.refl, hr, _, rng_get hi, .int _⟩
  · rw [rng_len]; exact Nat.le_refl _
def rg1 (x : D) (H : Hp3) (R : List D → (Hp3 → Prop) → Hp3 → Prop) : Prop := match x with
  | .int j => R (rng 0 j.toNat) (fun _ => True) H
  | _ => False
def rg2 (x y : D) (H : Hp3) (R : List D → (Hp3 → Prop) → Hp3 → Prop) : Prop := match x, y with
  | .int i, .int j => R (rng i (j - i).toNat) (fun _ => True) H
  | _, _ => False
def ir1 (ta : TE3) : TI3 := fun σ H R => ta σ H fun x H1 => rg1 x H1 R
def ir2 (ta tb : TE3) : TI3 := fun σ H R => ta σ H fun x H1 => tb σ H1 fun y H2 => rg2 x y H2 R
theorem i3_rng1 {tg a : Expr} {ta : TE3} {p pos : Pos} (hm : X.mg "range" = none) (ha : PE3 X a ta) (hg : Gl X "range" := by rfl) (hs : starEach [a] X.env = [(false, eval a X.env)] := by rfl) (hs' : starEach [a] X.env = (false, eval a X.env) :: starEach [] X.env := by rfl) : PI3 X tg (.Call (.Name "range" p) [a] [] pos) (ir1 ta) :=
  pi_imp (pj_range1 hg hm (a3_cons ha a3_nil hs') hs) fun _ _ _ ⟨σ3, H3, R3, sr, hr, t, k⟩ => by
    refine ⟨σ3, H3, fun ds H1 => (match ds with | [x] => rg1 x H1 R3 | _ => False), sr, hr, t, fun ds vs H3a Ha tka hra rs qa => ?_⟩
    cases rs with
    | nil => exact qa.elim
    | cons r1 r2 =>
      cases r2 with
      | cons _ _ => exact qa.elim
      | nil =>
        cases r1 with
        | int j => exact ⟨j, rfl, k _ _ _ _ _ tka hra itOk_rng qa⟩
        | _ => exact qa.elim
def fo3 (wi : TI3) (g : TG3) (tb : TS3) : TS3 := fun D σ H => wi σ H fun ds keep H1 => ∃ P : Nat → St3 → Hp3 → Prop, P 0 σ H1 ∧ (∀ i σ H, i ≤ ds.length → P i σ H → keep H) ∧
  (∀ i d σ H, ds[i]? = some d → P i σ H → g d σ H fun σ2 H2 => tb { D with nx := P (i + 1), ct := P (i + 1), bk := D.nx } σ2 H2) ∧ ∀ σ H, P ds.length σ H → D.nx σ H
theorem s3_for {tg iter : Expr} {body : List Stmt} {wi : TI3} {g : TG3} {tb : TS3} (hp : PassesOwn (model X.prog X.w) X.A X.env X.xe) (hc : X.calm = true) (hi : PI3 X tg iter wi) (hg : PG3 X tg g) (hb : PSs3 X body tb)
    (hs : ∀ x, foldedSetIterable iter X.env x = pure x := by intro _; rfl) : PS3 X (.For tg iter body [] pos) (fo3 wi g tb) :=
  ps_imp (ps_for hp hc hi hg hb hs) fun D σ H ⟨σ3, H3, D3, sr, hr, t, k⟩ => ⟨σ3, H3, _, sr, hr, t, fun ds keep J H3' H' tk' hr' ok q => by
    obtain ⟨P, p0, pk, pstep, pd⟩ := q
    refine ⟨fun i m σ1 H1 => m = ds.length - i ∧ i ≤ ds.length ∧ ∃ σ31 H31, TK H' H1 ∧ SR X.K H1 σ31 σ1 ∧ HR X.K H31 H1 ∧ P i σ31 H31, ⟨ds.length, by simp, Nat.zero_le _, σ3, H3', TK.refl, sr.mono tk', hr', p0⟩, ?_⟩
    rintro i m σ1 H1 ⟨rfl, hi, σ31, H31, tk1, sr1, hr1, p1⟩
    obtain ⟨go, stop⟩ := ok H31 H1 tk1 hr1 (pk i σ31 H31 hi p1)
    by_cases hlt : i < ds.length
    · obtain ⟨g1, g2⟩ := go i hlt
      refine .inr ⟨g1, fun σ' H'' => i + 1 ≤ ds.length ∧ ∃ σ3' H3'', TK H' H'' ∧ SR X.K H'' σ3' σ' ∧ HR X.K H3'' H'' ∧ P (i + 1) σ3' H3'', fun σ' H'' z => ⟨ds.length - (i + 1), by omega, rfl, z.1, z.2⟩, fun x H'' y => ?_⟩
      obtain ⟨tky, hry, d, ed, rd⟩ := g2 x H'' y
      refine ⟨d, σ31, H31, _, rd, sr1.mono tky, hry, pstep i d σ31 H31 ed p1, fun σ3b σb H3b Hb tkb srb hrb qb => ⟨σ3b, H3b, _, srb, hrb, qb, ?_⟩⟩
      have kk := k.mono (tk'.trans ((tk1.trans tky).trans tkb))
      exact ⟨fun σ3c σc H3c Hc tkc src hrc qc => ⟨hlt, σ3c, H3c, ((tk1.trans tky).trans tkb).trans tkc, src, hrc, qc⟩, kk.rt, kk.nx, fun σ3c σc H3c Hc tkc src hrc qc => ⟨hlt, σ3c, H3c, ((tk1.trans tky).trans tkb).trans tkc, src, hrc, qc⟩⟩
    · have e : i = ds.length := by omega
      subst e
      exact .inl ⟨stop, k.nx _ _ _ _ (tk'.trans tk1) sr1 hr1 (pd σ31 H31 p1)⟩⟩
end

/-! ### defs of the text -/
abbrev Sp3 := List D → Hp3 → VK3 → Prop
def liftF (K : PySem.W.Frag) (sp : Sp3) : Sp := fun vs H Q _ => liftC K sp vs H Q
structure Fn (P : Program) (w : World) (K : PySem.W.Frag) (mg : Str → Option Value) (base : Heap) (k : Nat) (x : Str) (ps : List Str) (sp : Sp3) : Prop where
  ex : ∃ f fd, FnOk P w K mg base CX0 k f fd ps (liftF K sp) ∧ mg x = some (.ref f) ∧ PySem.W.keepIn K (.ref f) = true ∧ Binds K fd ps []
theorem p3_call {X : Cx} {k : Nat} {x : Str} {ps : List Str} {sp : Sp3} {p pos : Pos} {e : Expr} {es : List Expr} {t : TA3} (F : Fn X.prog X.w X.K X.mg X.base k x ps sp) (hr : Room k X.A) (ha : PA3 X (e :: es) t)
    (hg : Gl X x := by rfl) (hdb : (x == ("__debug__" : Str)) = false := by decide) (he : starEach (e :: es) X.env = (false, eval e X.env) :: starEach es X.env := by rfl) (hpl : (backTo pos (starEach es X.env)).any (·.1) = false := by rfl) :
    PE3 X (.Call (.Name x p) (e :: es) [] pos) (cb3 sp t) := by
  obtain ⟨f, fd, F, hm, hk, hb⟩ := F.ex
  refine pe_imp (pe_call (E := E0) F hr hg hm hk hb .nil pass0 ha hdb he hpl) fun _ _ _ h => ?_
  obtain ⟨σ3, H3, Q3, sr, hr, t, k⟩ := h
  exact ⟨σ3, H3, _, sr, hr, t, fun ds vs H3a Ha tka hra rs qa => ⟨ds, H3a, Q3, hra, by rw [List.append_nil]; exact rs, qa, k.mono tka⟩⟩
def start3 (N : List Str) (ds : List D) : St3 := ds.map some ++ List.replicate (N.length - ds.length) none
theorem sr_start {K : PySem.W.Frag} {H : Hp} {N : List Str} {ds : List D} {vs : List V} (r : RepL K H ds vs) : SR K H (start3 N ds) (L2.start N vs) := by
  have hl := r.length
  refine ⟨by simp [start3, L2.start, hl], fun i d h => ?_⟩
  unfold start3 at h
  by_cases hi : i < ds.length
  · rw [List.getElem?_append_left (by simpa using hi), List.getElem?_map] at h
    cases e : ds[i]? with
    | none => rw [e] at h; cases h
    | some d' =>
      rw [e] at h
      cases h
      obtain ⟨v, hv, rv⟩ := r.get e
      refine ⟨v, ?_, rv⟩
      unfold L2.start
      rw [List.getElem?_append_left (by rw [List.length_map, ← hl]; exact hi), List.getElem?_map, hv]
      rfl
  · rw [List.getElem?_append_right (by simpa using hi), List.getElem?_replicate] at h
    split at h <;> cases h
/-- what is wanted behind a body: of the heap a part is enough -/
def fin3 (Q : VK3) : Ends3 := { nx := fun _ H' => ∃ H'', Sub3 H'' H' ∧ Q .non H'', rt := fun d H' => ∃ H'', Sub3 H'' H' ∧ Q d H'' }
theorem fnok3 {P : Program} {w : World} {K : PySem.W.Frag} {mg : Str → Option Value} {base : Heap} {x qual : Str} {st : Stmt} {f : Addr} {fd : FuncData} {N ps : List Str} {k : Nat} {sp : Sp3} (F : Fun K x qual st f fd) (S : FnScope N ps (defScope st))
    (len : ∀ ds H Q, sp ds H Q → ds.length = ps.length)
    (hbody : ∀ (cdv : Value) (A : Around) (outer : List Env) (s : Shared) (H : Hp) (E : XK), Room k (A.deeper (envOfC qual (defScope st) s.heap.objs.size f cdv)) →
      ∃ t, PSs3 (cxOf CX0 P w K mg base N qual (defScope st) f cdv A outer s H E).nox (defBody st) t ∧ ∀ ds H3 Q3, sp ds H3 Q3 → t (fin3 Q3) (start3 N ds) H3) : FnOk P w K mg base CX0 (k + 1) f fd ps (liftF K sp) := by
  refine F.ok S (fun vs H Q E h => ?_) (fun cdv A outer s H vs Q E hr h => ?_)
  · obtain ⟨ds, H3, Q3, _, rs, q, _⟩ := h
    rw [← rs.length]
    exact len ds H3 Q3 q
  · obtain ⟨ds, H3, Q3, hr3, rs, q, k⟩ := h
    obtain ⟨t, ht, hq⟩ := hbody cdv A outer s H E hr
    refine ⟨_, ht, start3 N ds, H3, _, sr_start rs, hr3, hq ds H3 Q3 q, ⟨fun σ3 σ H3' H' tk sr hr' z => ?_, fun d v H3' H' tk hr' rd z => ?_, fun _ _ _ _ _ _ _ z => z.elim, fun _ _ _ _ _ _ _ z => z.elim⟩⟩
    · obtain ⟨H'', sub, q'⟩ := z
      exact k _ _ _ _ tk (hr'.sub sub) .non q'
    · obtain ⟨H'', sub, q'⟩ := z
      exact k _ _ _ _ tk (hr'.sub sub) rd q'
theorem fn3 {P : Program} {w : World} {K : PySem.W.Frag} {mg : Str → Option Value} {base : Heap} {x qual : Str} {st : Stmt} {f : Addr} {fd : FuncData} {N ps : List Str} {k : Nat} {sp : Sp3} (F : Fun K x qual st f fd) (S : FnScope N ps (defScope st))
    (hm : mg x = some (.ref f)) (hb : Binds K fd ps []) (len : ∀ ds H Q, sp ds H Q → ds.length = ps.length)
    (hbody : ∀ (cdv : Value) (A : Around) (outer : List Env) (s : Shared) (H : Hp) (E : XK), Room k (A.deeper (envOfC qual (defScope st) s.heap.objs.size f cdv)) →
      ∃ t, PSs3 (cxOf CX0 P w K mg base N qual (defScope st) f cdv A outer s H E).nox (defBody st) t ∧ ∀ ds H3 Q3, sp ds H3 Q3 → t (fin3 Q3) (start3 N ds) H3) : Fn P w K mg base (k + 1) x ps sp :=
  ⟨f, fd, fnok3 F S len hbody, hm, F.kp, hb⟩
/-- the law's own call: the script is a frozen list of ints -/
theorem start_law {K : PySem.W.Frag} {sp : Sp3} {H : Hp} {a : Addr} {ns : List Int} {E : XK} (hO : Only H) (hS : SqL K H a (ns.map V.int)) (h : sp [.fl (ns.map D.int)] (fun _ => none) (fun d _ => d = .bl true)) : liftF K sp [.ref a] H (fun v _ => v = .bl true) E := by
  refine ⟨[.fl (ns.map D.int)], fun _ => none, fun d _ => d = .bl true, fun b o e => (by cases e), .cons (.fl ?_ (RepL.ints ns)) .nil, h, fun d v H3' H' tk hr rd q => ?_⟩
  · rcases hS with (z | z) | z
    · rcases hO a with q | ⟨o, xs, q⟩
      · rw [z] at q; cases q
      · rw [z] at q; cases q
    · exact .inl z
    · exact .inr z
  · subst q
    cases rd
    rfl
end L3

namespace L3
open PySem PySem.Spec PyProof.Rows L2
/-! ### equality of data -/
def mapO {α β : Type} (f : α → Option β) : List α → Option (List β)
  | [] => some []
  | d :: ds => match f d with
    | none => none
    | some p => match mapO f ds with
      | none => none
      | some ps => some (p :: ps)
def pyN : Nat → D → Option PyData
  | 0, d => match d with
    | .non => some .none
    | .bl b => some (.bool b)
    | .int i => some (.int i)
    | .str x => if PyData.strOk x = true then some (.str x) else none
    | _ => none
  | n + 1, d => match d with
    | .non => some .none
    | .bl b => some (.bool b)
    | .int i => some (.int i)
    | .str x => if PyData.strOk x = true then some (.str x) else none
    | .tup ds => (mapO (pyN n) ds).map .tuple
    | .ktup ds => (mapO (pyN n) ds).map .tuple
    | _ => none
def pyH (H : Hp3) (d : D) : Option PyData := match d with
  | .ref a => (match H a with
    | some (.lst ds) => (mapO (pyN 4) ds).map .list
    | _ => none)
  | .fl ds => (mapO (pyN 4) ds).map .list
  | d => pyN 5 d
section
variable {X : Cx} {pins : List (Addr × Obj)} {σ : St} {H : Hp} {s : Shared}
theorem vals_reads {f : D → Option PyData} {n : Nat} (hf : ∀ {d : D} {v : V} {u : Value} {p : PyData}, Rep X.K H d v → RelV v u → f d = some p → (∃ as, Reads s.heap u p as) ∧ p.canLay0 = true ∧ p.depth ≤ n) :
    ∀ {ds : List D} {vs : List V} {us : List Value} {ps : List PyData}, RepL X.K H ds vs → Vals vs us → mapO f ds = some ps → (∃ as, ReadsAll s.heap us ps as) ∧ PyData.canLayAll0 ps = true ∧ PyData.depthAll ps ≤ n
  | _, _, _, ps, .nil, .nil, h => by
    simp only [mapO, Option.some.injEq] at h
    subst h
    exact ⟨⟨[], .nil⟩, rfl, Nat.zero_le _⟩
  | _, _, _, ps, .cons r rs, .cons q qs, h => by
    simp only [mapO] at h
    split at h
    · cases h
    · rename_i p e1
      split at h
      · cases h
      · rename_i ps' e2
        cases h
        obtain ⟨⟨as, h1⟩, h2, h3⟩ := hf r q e1
        obtain ⟨⟨bs, g1⟩, g2, g3⟩ := vals_reads hf rs qs e2
        refine ⟨⟨_, .cons h1 g1⟩, ?_, ?_⟩
        · simp [PyData.canLayAll0, h2, g2]
        · simp only [PyData.depthAll]; omega
theorem rep_reads (I : Inv X pins σ H s) : ∀ (n : Nat) {d : D} {v : V} {u : Value} {p : PyData}, Rep X.K H d v → RelV v u → pyN n d = some p → (∃ as, Reads s.heap u p as) ∧ p.canLay0 = true ∧ p.depth ≤ n := by
  intro n
  induction n with
  | zero =>
    intro d v u p r q h
    cases r with
    | non => cases h; cases q; exact ⟨⟨_, .none⟩, rfl, Nat.zero_le _⟩
    | bl b => cases h; cases q; exact ⟨⟨_, .bool b⟩, rfl, Nat.zero_le _⟩
    | int i => cases h; obtain ⟨t, rfl⟩ := q; exact ⟨⟨_, .int i t⟩, rfl, Nat.zero_le _⟩
    | str x =>
      simp only [pyN] at h
      split at h
      · rename_i hx
        cases h; obtain ⟨t, rfl⟩ := q; exact ⟨⟨_, .str x t⟩, hx, Nat.zero_le _⟩
      · cases h
    | _ => cases h
  | succ n ih =>
    intro d v u p r q h
    cases r with
    | non => cases h; cases q; exact ⟨⟨_, .none⟩, rfl, Nat.zero_le _⟩
    | bl b => cases h; cases q; exact ⟨⟨_, .bool b⟩, rfl, Nat.zero_le _⟩
    | int i => cases h; obtain ⟨t, rfl⟩ := q; exact ⟨⟨_, .int i t⟩, rfl, Nat.zero_le _⟩
    | str x =>
      simp only [pyN] at h
      split at h
      · rename_i hx
        cases h; obtain ⟨t, rfl⟩ := q; exact ⟨⟨_, .str x t⟩, hx, Nat.zero_le _⟩
      · cases h
    | tup ha ra =>
      simp only [pyN, Option.map_eq_some_iff] at h
      obtain ⟨ps, h1, rfl⟩ := h
      cases q
      obtain ⟨its, rv, ⟨o, ho, hc, m, hd⟩, _⟩ := I.tuple (SqT.of ha)
      obtain ⟨⟨as, g1⟩, g2, g3⟩ := vals_reads (f := pyN n) (n := n) ih ra rv h1
      exact ⟨⟨_, .tuple ho hc hd (by simpa using g1)⟩, g2, by simp only [PyData.depth]; omega⟩
    | ktup ha ra =>
      simp only [pyN, Option.map_eq_some_iff] at h
      obtain ⟨ps, h1, rfl⟩ := h
      cases q
      obtain ⟨its, rv, ⟨o, ho, hc, m, hd⟩, _⟩ := I.tuple ha.sq
      obtain ⟨⟨as, g1⟩, g2, g3⟩ := vals_reads (f := pyN n) (n := n) ih ra rv h1
      exact ⟨⟨_, .tuple ho hc hd (by simpa using g1)⟩, g2, by simp only [PyData.depth]; omega⟩
    | _ => cases h
theorem pyH_reads (I : Inv X pins σ H s) {H3 : Hp3} (hr : HR X.K H3 H) {d : D} {v : V} {u : Value} {p : PyData} (r : Rep X.K H d v) (q : RelV v u) (h : pyH H3 d = some p) : (∃ as, Reads s.heap u p as) ∧ p.canLay0 = true ∧ p.depth ≤ 5 := by
  have lst : ∀ {a : Addr} {xs : List V} {ds : List D}, SqL X.K H a xs → RepL X.K H ds xs → (mapO (pyN 4) ds).map PyData.list = some p → (∃ as, Reads s.heap (.ref a) p as) ∧ p.canLay0 = true ∧ p.depth ≤ 5 := fun hq ra h => by
    simp only [Option.map_eq_some_iff] at h
    obtain ⟨ps, h1, rfl⟩ := h
    obtain ⟨its, rv, pl, _⟩ := I.list hq
    obtain ⟨o, ho, hc, m, hd⟩ := pl.isList
    obtain ⟨⟨as, g1⟩, g2, g3⟩ := vals_reads (f := pyN 4) (n := 4) (rep_reads I 4) ra rv h1
    exact ⟨⟨_, .list ho hc hd (by simpa using g1)⟩, g2, by simp only [PyData.depth]; omega⟩
  cases r with
  | ref a =>
    simp only [pyH] at h
    split at h
    · rename_i ds ha
      obtain ⟨vs, ga, ra⟩ := hr a _ ha
      cases q
      exact lst (SqL.of ga) ra h
    · cases h
  | fl ha ra => cases q; exact lst ha.sq ra h
  | non => exact rep_reads I 5 .non q h
  | bl b => exact rep_reads I 5 (.bl b) q h
  | int b => exact rep_reads I 5 (.int b) q h
  | str b => exact rep_reads I 5 (.str b) q h
  | ty b => exact rep_reads I 5 (.ty b) q h
  | tup a b => exact rep_reads I 5 (.tup a b) q h
  | ktup a b => exact rep_reads I 5 (.ktup a b) q h
end
def r3eq : R3 := fun x y H Q => match pyH H x, pyH H y with
  | some p, some q => Q (.bl (PyData.eqv p q)) H
  | _, _ => False
def r3ne : R3 := fun x y H Q => match pyH H x, pyH H y with
  | some p, some q => Q (.bl (!PyData.eqv p q)) H
  | _, _ => False
section
variable {X : Cx}
theorem op3_eq (hu : X.A.units + 64 < cLine) : OpR X (compareOp .Eq) (lift2 X.K r3eq) := by
  intro pins s σ H x y v u Q I rx ry h
  obtain ⟨dx, dy, H3, Q3, hr, rdx, rdy, t, k⟩ := h
  simp only [r3eq] at t
  split at t
  · rename_i p q e1 e2
    obtain ⟨⟨as, h1⟩, h2, h3⟩ := pyH_reads I hr rdx rx e1
    obtain ⟨⟨bs, g1⟩, g2, g3⟩ := pyH_reads I hr rdy ry e2
    exact SeqAt.compareEq_reads h1 g1 h2 g2 (by have := Nat.min_le_left p.depth q.depth; omega) ⟨.bl _, H, I, rfl, k _ _ _ _ TK.refl hr (.bl _) t⟩
  · exact t.elim
theorem op3_ne (hu : X.A.units + 64 < cLine) : OpR X (compareOp .NotEq) (lift2 X.K r3ne) := by
  intro pins s σ H x y v u Q I rx ry h
  obtain ⟨dx, dy, H3, Q3, hr, rdx, rdy, t, k⟩ := h
  simp only [r3ne] at t
  split at t
  · rename_i p q e1 e2
    obtain ⟨⟨as, h1⟩, h2, h3⟩ := pyH_reads I hr rdx rx e1
    obtain ⟨⟨bs, g1⟩, g2, g3⟩ := pyH_reads I hr rdy ry e2
    exact SeqAt.compareNe_reads h1 g1 h2 g2 (by have := Nat.min_le_left p.depth q.depth; omega) ⟨.bl _, H, I, rfl, k _ _ _ _ TK.refl hr (.bl _) t⟩
  · exact t.elim
/-! ### in -/
/-! ### isinstance -/
def tyH (H : Hp3) (d : D) : Option String := match d with
  | .non => some "NoneType"
  | .bl _ => some "bool"
  | .int _ => some "int"
  | .str _ => some "str"
  | .tup _ => some "tuple"
  | .fl _ => some "list"
  | .ref a => (match H a with
    | some (.lst _) => some "list"
    | some (.dic _) => some "dict"
    | some (.ins _ _) => none
    | some (.exc _) => none
    | none => none)
  | .ty _ => none
  | .ktup _ => some "tuple"
def isT (U T : String) : Bool := U == T || (U == "bool" && T == "int")
def kinds : List String := ["int", "bool", "str", "tuple", "list", "dict"]
def r3isi : List D → Hp3 → VK3 → Prop := fun ds H Q => match ds with
  | [x, .ty T] => (match tyH H x with
    | some U => T ∈ kinds ∧ Q (.bl (isT U T)) H
    | none => False)
  | _ => False
theorem kit_ok (K : PySem.W.Frag) (U T : String) (hU : U ∈ "NoneType" :: kinds) (hT : T ∈ kinds) : PySem.W.kitOne K (.type U) (.type T) = some (isT U T) := by
  simp only [kinds, List.mem_cons, List.not_mem_nil, or_false] at hU hT
  rcases hU with rfl | rfl | rfl | rfl | rfl | rfl | rfl <;> rcases hT with rfl | rfl | rfl | rfl | rfl | rfl <;> kernel_rfl
theorem cb3_isi : CallR X (.builtin "isinstance") (liftC X.K r3isi) := by
  intro pins s σ H xs us Q I rs h
  obtain ⟨ds, H3, Q3, hr, rd, t, k⟩ := h
  cases rd with
  | nil => exact t.elim
  | cons r1 r2 =>
    cases r2 with
    | nil => cases r1 <;> exact t.elim
    | cons r2 r3 =>
      cases r3 with
      | cons _ _ => cases r1 <;> cases r2 <;> exact t.elim
      | nil =>
        cases r2 with
        | ty T =>
          obtain ⟨u, w, rfl, ru, rw'⟩ := vals2 rs
          obtain rfl : w = Value.type T := rw'
          simp only [r3isi] at t
          split at t
          · rename_i U eU
            obtain ⟨hT, t⟩ := t
            have fin : ∀ tk, EP X pins σ Q (.bool (isT U T)) { s with toks := tk } := fun tk => ⟨.bl _, H, I.tok tk, rfl, k _ _ _ _ TK.refl hr (.bl _) t⟩
            have e : ∀ (hU : U ∈ "NoneType" :: kinds), PySem.W.kitOne X.K (.type U) (.type T) = some (isT U T) := fun hU => kit_ok X.K U T hU hT
            cases r1 with
            | non => cases eU; exact isinst_ok I ru (.non) (e (by simp)) fin
            | bl b => cases eU; exact isinst_ok I ru (.bl b) (e (by simp [kinds])) fin
            | int b => cases eU; exact isinst_ok I ru (.int b) (e (by simp [kinds])) fin
            | str b => cases eU; exact isinst_ok I ru (.str b) (e (by simp [kinds])) fin
            | ty b => cases eU
            | tup ha ra =>
              cases eU
              cases ru
              obtain ⟨its, _, ⟨o, h1, h2, _⟩, _⟩ := I.tuple (SqT.of ha)
              exact PySem.W.kia_one PySem.W.kitx_tuple I.kIn ⟨o, h1, h2⟩ (e (by simp [kinds])) (fun z => nomatch z) fin
            | ktup ha ra =>
              cases eU
              cases ru
              obtain ⟨its, _, ⟨o, h1, h2, _⟩, _⟩ := I.tuple ha.sq
              exact PySem.W.kia_one PySem.W.kitx_tuple I.kIn ⟨o, h1, h2⟩ (e (by simp [kinds])) (fun z => nomatch z) fin
            | fl ha ra =>
              cases eU
              cases ru
              obtain ⟨its, _, pl, _⟩ := I.list ha.sq
              obtain ⟨o, h1, h2, _⟩ := pl.isList
              exact PySem.W.kia_one PySem.W.kitx_list I.kIn ⟨o, h1, h2⟩ (e (by simp [kinds])) (fun z => nomatch z) fin
            | ref a =>
              simp only [tyH] at eU
              split at eU
              · rename_i ds ha
                cases eU
                obtain ⟨vs, ga, ra⟩ := hr a _ ha
                exact isinst_ok I ru (.lst ga) (e (by simp [kinds])) fin
              · rename_i ds ha
                cases eU
                obtain ⟨vs, ga, ra⟩ := hr a _ ha
                exact isinst_ok I ru (.dT ga) (e (by simp [kinds])) fin
              · cases eU
              · cases eU
              · cases eU
          · exact t.elim
        | _ => cases r1 <;> exact t.elim

/-! ### a list's methods -/
def m3 (r : D → List D → Hp3 → VK3 → Prop) (to : TE3) (t : TA3) : TE3 := fun σ H Q => to σ H fun x H1 => (match x with
  | .ref a => (match H1 a with
    | some (.lst _) => t σ H1 fun xs H2 => r x xs H2 Q
    | _ => False)
  | _ => False)
theorem p3_bm {o e : Expr} {es : List Expr} {to : TE3} {t : TA3} {name : Str} {apos cpos : Pos} {id : String} {r : D → List D → Hp3 → VK3 → Prop} (slot : Slot "list" name id) (hty : typeOf (.builtin id) = pure (.type "method_descriptor")) (hm : MtR X id (liftM X.K r)) (ho : PE3 X o to) (ha : PA3 X (e :: es) t)
    (hbase : attributeBase o name X.env (eval o X.env) = eval o X.env := by rfl)
    (hfew : ((backTo cpos (starEach (e :: es) X.env)).all (fun x => !x.1) && (backToKw cpos (keywordEach [] X.env)).all (fun x => x.1.isSome)
      && decide ((e :: es).length + ([] : List Keyword).length + (if ([] : List Keyword).isEmpty then 0 else 1) < 30)) = true := by rfl)
    (hline : (apos.endLine == cpos.line) = true := by rfl) (hs : starEach (e :: es) X.env = (false, eval e X.env) :: starEach es X.env := by rfl) (hplain : (backTo cpos (starEach es X.env)).any (·.1) = false := by rfl) :
    PE3 X (.Call (.Attribute o name apos) (e :: es) [] cpos) (m3 r to t) :=
  pe_imp (pe_bm PySem.F.plainAttrs_list slot hty hm ho ha hbase hfew hline hs hplain) fun _ _ _ ⟨σ3, H3, Q3, sr, hr, t, k⟩ => ⟨σ3, H3, _, sr, hr, t, fun x v H3a Ha tka hra rx qa => by
    cases rx with
    | ref a =>
      simp only [] at qa
      split at qa
      · rename_i ds ha
        obtain ⟨vs, ga, ra⟩ := hra a _ ha
        exact ⟨.inl ⟨rfl, vs, SqL.of ga⟩, σ3, H3a, _, sr.mono tka, hra, qa, fun ds us H3b Hb tkb hrb rs qb => ⟨.ref a, ds, H3b, Q3, hrb, .ref a, rs, qb, k.mono (tka.trans tkb)⟩⟩
      · exact qa.elim
    | _ => exact qa.elim⟩
end
end L3

namespace L3
open PySem PySem.Spec PyProof.Rows L2
/-! ### list comprehensions -/
/-- the cells that a block takes with it -/
theorem closure_ok {scope : Scope} {env : Env} (h : ∀ y, (y, NameKind.free) ∈ scope.names → ∃ c, env.cells.lookup y = some c) :
    ∃ cl, closureFor scope env = pure cl ∧ (∀ y c, cl.lookup y = some c → env.cells.lookup y = some c) ∧ ∀ y, (y, NameKind.free) ∈ scope.names → ∃ c, cl.lookup y = some c := by
  have go : ∀ (names : List (Str × NameKind)) (cs : List (Str × Addr)), (∀ y, (y, NameKind.free) ∈ names → ∃ c, env.cells.lookup y = some c) → (∀ y c, cs.lookup y = some c → env.cells.lookup y = some c) →
      ∃ cl, (forIn (m := Sem) names cs fun (x : Str × NameKind) r => match x with
        | (name, kind) => if (kind == NameKind.free) = true then do let c ← cellOf env name; pure (ForInStep.yield ((name, c) :: r)) else pure (ForInStep.yield r)) = pure cl ∧
        (∀ y c, cl.lookup y = some c → env.cells.lookup y = some c) ∧ (∀ y, (y, NameKind.free) ∈ names → ∃ c, cl.lookup y = some c) ∧ ∀ y c, cs.lookup y = some c → ∃ c', cl.lookup y = some c' := by
    intro names
    induction names with
    | nil => intro cs _ h2; exact ⟨cs, rfl, h2, (fun _ z => nomatch z), fun y c e => ⟨c, e⟩⟩
    | cons x r ih =>
      intro cs h1 h2
      obtain ⟨n, k⟩ := x
      by_cases hk : k = NameKind.free
      · subst hk
        obtain ⟨c, hc⟩ := h1 n List.mem_cons_self
        have ec : cellOf env n = pure c := by unfold cellOf; rw [hc]
        have h2' : ∀ y c', ((n, c) :: cs).lookup y = some c' → env.cells.lookup y = some c' := fun y c' e => by
          rw [List.lookup_cons] at e
          split at e
          · rename_i he
            cases e
            rw [eq_of_beq he]; exact hc
          · exact h2 y c' e
        obtain ⟨cl, e1, e2, e3, e4⟩ := ih ((n, c) :: cs) (fun y hy => h1 y (List.mem_cons_of_mem _ hy)) h2'
        have hn : ∃ c', cl.lookup n = some c' := e4 n c (by rw [List.lookup_cons]; simp)
        refine ⟨cl, ?_, e2, fun y hy => ?_, fun y c' e => ?_⟩
        · rw [List.forIn_cons]
          simp only [beq_self_eq_true, if_true, ec]
          exact e1
        · rcases List.mem_cons.mp hy with z | z
          · cases z; exact hn
          · exact e3 y z
        · by_cases hy : y = n
          · rw [hy]; exact hn
          · exact e4 y c' (by rw [List.lookup_cons, beq_eq_false_iff_ne.mpr hy]; exact e)
      · have hb : (k == NameKind.free) = false := by simpa using hk
        obtain ⟨cl, e1, e2, e3, e4⟩ := ih cs (fun y hy => h1 y (List.mem_cons_of_mem _ hy)) h2
        refine ⟨cl, ?_, e2, fun y hy => ?_, e4⟩
        · rw [List.forIn_cons]
          simp only [hb, Bool.false_eq_true, if_false]
          exact e1
        · rcases List.mem_cons.mp hy with z | z
          · cases z; exact absurd rfl hk
          · exact e3 y z
  obtain ⟨cl, e1, e2, e3, _⟩ := go scope.names [] h (fun _ _ e => by simp at e)
  refine ⟨cl, ?_, e2, e3⟩
  unfold closureFor
  refine Eq.trans (congrArg (fun t => t >>= fun cs => pure cs) e1) ?_
  rfl

theorem comp_loop {prog : Program} {w : World} {A : Around} {R : Result → Shared → Prop} {s : Shared} {elt target iter : Expr} {ifs : List Expr} {scope : Scope} {pos : Pos} {it acc : Value} {env : Env} (I : Nat → Shared → Prop)
    (turn : ∀ n s, I n s → wpAny (model prog w) A (pyNext it) (fun r s₁ => match r with
      | none => R (.ok .next) s₁
      | some v => wpAny (model prog w) A (letOwnedTupleGo target it v) (fun _ s₁' => wpAny (model prog w) A (assign target env v) (fun _ s₂ =>
          wpAny (model prog w) A (forIn ifs true fun c r => if r = true then do let ok ← isTrue c env (eval c env); pure (ForInStep.yield ok) else pure (ForInStep.yield r)) (fun ok s₃ =>
            if ok = true then wpAny (model prog w) A (eval elt env) (fun x s₄ =>
              wpAny (model prog w) A (call (.builtin "list.append") [acc, x]) (fun _ s₅ => ∃ m, m < n ∧ I m s₅) (fun _ _ => False) s₄) (fun _ _ => False) s₃
            else ∃ m, m < n ∧ I m s₃) (fun _ _ => False) s₂) (fun _ _ => False) s₁') (fun _ _ => False) s₁) (fun _ _ => False) s)
    (n : Nat) (h : I n s) :
    codeAny (model prog w) A (.compLoop (.ListComp elt [⟨target, iter, ifs, 0⟩] scope pos) 0 it acc env) R s := by
  refine codeAny_loop rfl I (fun n s hI => ?_) n h
  show wpAny _ A ((compTurn (.ListComp elt [⟨target, iter, ifs, 0⟩] scope pos) 0 it acc env).onRaise (fun x => do noteFrame x env; theTreesLotGoes x)) _ _ s
  refine wpAny_noted ?_
  rw [compTurn_list]
  refine wpAny_bind (wpAny_standAt (wpAny_bind (wpAny_mono (turn n s hI) (fun r s₁ h₁ => ?_) fun _ _ h' => h'.elim)))
  cases r with
  | none => exact wpAny_pure h₁
  | some v =>
    refine wpAny_bind (wpAny_mono h₁ (fun _ s₁' h₁' => ?_) fun _ _ h' => h'.elim)
    refine wpAny_bind (wpAny_mono h₁' (fun _ s₂ h₂ => wpAny_bind (wpAny_mono h₂ (fun ok s₃ h₃ => ?_) fun _ _ h' => h'.elim)) fun _ _ h' => h'.elim)
    cases ok with
    | false => exact wpAny_pure ⟨rfl, h₃⟩
    | true =>
      exact wpAny_bind (wpAny_bind (wpAny_mono h₃ (fun x s₄ h₄ => wpAny_bind (wpAny_mono h₄ (fun _ s₅ h₅ => wpAny_pure (wpAny_pure ⟨rfl, h₅⟩)) fun _ _ h' => h'.elim)) fun _ _ h' => h'.elim))

/-- the block's context: own names N', entered at s₁ with the heap H₁; fp: what the iterator is made of; pins: what must stand -/
def cxC (X : Cx) (N' : List Str) (scope : Scope) (cl : List (Str × Addr)) (s₁ : Shared) (H₁ : Hp) (fp : List Addr) (pins : List (Addr × Obj)) : Cx where
  prog := X.prog
  w := X.w
  K := X.K
  mg := X.mg
  base := X.base
  A := X.A
  N := N'
  s₀ := s₁
  H₀ := H₁
  env := compEnvC scope cl s₁.heap.objs.size X.env
  outer := X.stack
  stack := X.stack
  ex := fp
  fn := fun _ => false
  calm := X.calm
  pn := X.pn ++ pins
  xe := fun _ _ => False

/-- the names that the block reads from the def round it: slot of the def, name -/
abbrev FV := List (Nat × Str)
/-- the kinds of the block's names, by the def's scope round it -/
def relS (scope sc : Scope) : Scope := { scope with names := scope.names.map fun (n, k) => if (k == .free && sc.kind == .function && sc.names.lookup n == some .cell) then (n, .cell) else (n, k) }
structure CompOk (sc : Scope) (N : List Str) (scope : Scope) (N' : List Str) (own : List Str) (fv : FV) : Prop where
  kind : scope.kind = .function
  nocell : ∀ y ∈ scope.names, y.2 ≠ .cell
  loc : ∀ y ∈ scope.names, y.2 = .local → scope.names.lookup y.1 = some .local
  fre' : ∀ y ∈ scope.names, y.2 = .free → sc.names.lookup y.1 = some .cell
  eqN : N' = own ++ fv.map (·.2)
  nd : N'.Nodup
  slot : ∀ p ∈ fv, N[p.1]? = some p.2 ∧ sc.names.lookup p.2 = some .cell ∧ (relS scope sc).names.lookup p.2 = some .cell
theorem CompOk.fre {sc scope : Scope} {N N' own : List Str} {fv : FV} (c : CompOk sc N scope N' own fv) : ∀ y, (y, NameKind.free) ∈ scope.names → sc.names.lookup y = some .cell := fun y hy => c.fre' _ hy rfl

/-- the frame of the block at its start: own names unset, the others as round it -/
def blk (own : List Str) (fv : FV) (σ : St) : St := own.map (fun _ => none) ++ fv.map fun p => (σ[p.1]?).join

theorem rel_lookup {scope : Scope} {env : Env} : ∀ {names : List (Str × NameKind)} {y : Str} {k : NameKind},
    (names.map fun (n, k) => if (k == NameKind.free && env.scope.kind == .function && env.kindOf n == some .cell) then (n, NameKind.cell) else (n, k)).lookup y = some k → k = .cell ∨ k = .free → (∀ z ∈ names, z.2 ≠ .cell) → (y, NameKind.free) ∈ names
  | [], _, _, h, _, _ => by simp at h
  | (n, k0) :: r, y, k, h, hk, hc => by
    rw [List.map_cons] at h
    by_cases hf : k0 = NameKind.free
    · by_cases hy : y = n
      · subst hy; subst hf; exact List.mem_cons_self
      · refine List.mem_cons_of_mem _ (rel_lookup (env := env) (scope := scope) (k := k) ?_ hk fun z hz => hc z (List.mem_cons_of_mem _ hz))
        dsimp only at h
        have hyb : (y == n) = false := beq_eq_false_iff_ne.mpr hy
        split at h <;> (rw [List.lookup_cons, hyb] at h; exact h)
    · have hb : (k0 == NameKind.free) = false := by simpa using hf
      simp only [hb, Bool.false_and, Bool.false_eq_true, if_false] at h
      rw [List.lookup_cons] at h
      by_cases hy : y = n
      · subst hy
        simp only [beq_self_eq_true] at h
        cases h
        rcases hk with z | z
        · exact absurd z (hc _ List.mem_cons_self)
        · exact absurd z hf
      · have hyb : (y == n) = false := beq_eq_false_iff_ne.mpr hy
        rw [hyb] at h
        exact List.mem_cons_of_mem _ (rel_lookup (env := env) (scope := scope) (k := k) h hk fun z hz => hc z (List.mem_cons_of_mem _ hz))

section
variable {X : Cx} {pins : List (Addr × Obj)} {σ : St} {H₁ : Hp} {s₁ s₂ : Shared} {scope : Scope} {cl : List (Str × Addr)} {N' own : List Str} {fv : FV} {fp : List Addr}
theorem cxC_ok (I : Inv X pins σ H₁ s₁) (c : CompOk X.env.scope X.N scope N' own fv) (h1 : ∀ y c, cl.lookup y = some c → X.env.cells.lookup y = some c) (h2 : ∀ y, (y, NameKind.free) ∈ scope.names → ∃ c, cl.lookup y = some c)
    (hf : ∀ b ∈ fp, FpOk X pins H₁ b ∧ b < s₁.heap.objs.size) : (cxC X N' scope cl s₁ H₁ fp pins).Ok where
  mod := I.ok.mod
  kind := c.kind
  glob := I.ok.glob
  blt := I.ok.blt
  above := Nat.le_refl _
  inj := fun x y a e1 e2 => I.ok.inj x y a (h1 x a e1) (h1 y a e2)
  has := fun x hx => by
    have hx' : (relabel scope X.env).names.lookup x = some .cell ∨ (relabel scope X.env).names.lookup x = some .free := hx
    rcases hx' with z | z
    · exact h2 x (rel_lookup (scope := scope) (env := X.env) z (.inl rfl) c.nocell)
    · exact h2 x (rel_lookup (scope := scope) (env := X.env) z (.inr rfl) c.nocell)
  cab := fun x a e => by cases e
  hd := I.ok.hd
  frames := I.ok.frames
  stk := .inl rfl
  exf := fun b hb => ⟨Nat.ne_of_lt (hf b hb).2, fun x a e => (hf b hb).1.2.2.2.2.1 x a (h1 x a e)⟩
  bs := I.bs
  bsz := Nat.le_trans I.ok.bsz I.sz
  noex := fun b o e hb => by
    rcases (hf b hb).1.2.2.2.1 with z | z
    · exact I.ok.noex b o e z
    · exact absurd (Nat.lt_of_lt_of_le (Heap.lt_size (I.ok.bs b o e).1) z) (Nat.lt_irrefl _)
  exfs := fun b hb hm => by
    rcases List.mem_cons.mp (I.stkSub b hm) with z | z
    · exact (hf b hb).1.2.1 z
    · exact (hf b hb).1.2.2.1 z
  funs := I.stack
  frf := I.stkFree
theorem blk_len : (blk own fv σ).length = (own ++ fv.map (·.2)).length := by simp [blk]
/-- the block is entered -/
theorem inv_block (I : Inv X pins σ H₁ s₁) (c : CompOk X.env.scope X.N scope N' own fv) (h1 : ∀ y c, cl.lookup y = some c → X.env.cells.lookup y = some c) (h2 : ∀ y, (y, NameKind.free) ∈ scope.names → ∃ c, cl.lookup y = some c)
    (hf : ∀ b ∈ fp, FpOk X pins H₁ b ∧ b < s₁.heap.objs.size) {h' : Heap} {m : Str → Option Value} {tk : Nat} (hn : h'.Ns s₁.heap.objs.size m) (kp : ∀ b o, s₁.heap.get? b = some o → h'.get? b = some o) :
    Inv (cxC X N' scope cl s₁ H₁ fp pins) [] (blk own fv σ) H₁ { s₁ with heap := h', toks := tk } where
  ok := cxC_ok I c h1 h2 hf
  os := rfl
  bare := I.bare
  base := Un.kept kp
  loc := by
    refine ⟨m, hn, fun i x v e1 e2 e3 => ?_⟩
    have e1' : (own ++ fv.map (·.2))[i]? = some x := by rw [← c.eqN]; exact e1
    have hi : ¬ i < own.length := fun hi => by
      unfold blk at e2
      rw [List.getElem?_append_left (by simpa using hi), List.getElem?_map] at e2
      cases z : own[i]? with
      | none => rw [z] at e2; cases e2
      | some y => rw [z] at e2; cases e2
    unfold blk at e2
    rw [List.getElem?_append_right (by simpa using hi), List.length_map, List.getElem?_map] at e2
    rw [List.getElem?_append_right (by simpa using hi), List.getElem?_map] at e1'
    cases z : fv[i - own.length]? with
    | none => rw [z] at e2; cases e2
    | some p =>
      rw [z] at e2 e1'
      have ex : p.2 = x := Option.some.inj e1'
      subst ex
      obtain ⟨g1, g2, g3⟩ := c.slot p (List.mem_of_getElem? z)
      have e2' : (σ[p.1]?).join = some v := Option.some.inj e2
      have e2'' : σ[p.1]? = some (some v) := by
        cases q : σ[p.1]? with
        | none => rw [q] at e2'; cases e2'
        | some o => rw [q] at e2'; rw [show o = some v from e2']
      obtain ⟨m0, hn0, hl0⟩ := I.loc
      obtain ⟨u, ru, lu⟩ := hl0 p.1 p.2 v g1 e2'' (.inr (.inl g2))
      refine ⟨u, ru, .inr ⟨.inl g3, ?_⟩⟩
      rcases lu with ⟨k, _⟩ | ⟨_, cc, ec, ic⟩
      · exact absurd (show X.env.scope.names.lookup p.2 = some NameKind.local from k) (by rw [g2]; intro z; cases z)
      · have hfree : (p.2, NameKind.free) ∈ scope.names := rel_lookup (scope := scope) (env := X.env) g3 (.inl rfl) c.nocell
        obtain ⟨c', ec'⟩ := h2 _ hfree
        have := h1 _ _ ec'
        rw [ec] at this
        cases this
        obtain ⟨o, ho, hd⟩ := ic
        exact ⟨cc, ec', o, kp _ _ ho, hd⟩
  cell := fun x a e => by
    obtain ⟨v, o, ho, hd⟩ := I.cell x a (h1 x a e)
    exact ⟨v, o, kp _ _ ho, hd⟩
  free := I.hok.fresh (Nat.le_refl _)
  freeC := fun x a e => I.freeC x a (h1 x a e)
  pin := fun p hp => by
    rw [List.append_nil] at hp
    obtain ⟨g1, g2, g3, g4, g5⟩ := I.pin p hp
    refine ⟨kp _ _ g1, g2, Nat.ne_of_lt (Heap.lt_size g1), fun hm => ?_, g5⟩
    rcases List.mem_cons.mp (I.stkSub p.1 hm) with z | z
    · exact g3 z
    · exact g4 z
  hok := I.hok.kept kp
  len := by rw [blk_len, ← c.eqN]; rfl
/-- behind the block -/
theorem inv_left {σ' : St} {H' : Hp} (I : Inv X pins σ H₁ s₁) (hf : ∀ b ∈ fp, FpOk X pins H₁ b ∧ b < s₁.heap.objs.size) (J : Inv (cxC X N' scope cl s₁ H₁ fp pins) [] σ' H' s₂) :
    Inv X pins σ H' s₂ ∧ FpOk X pins H' s₁.heap.objs.size ∧ ∃ m, s₂.heap.Ns s₁.heap.objs.size m := by
  have I2 : Inv X pins σ H' s₂ := I.call' (ch := fp) J.os J.base J.hok J.bare fun b hb => ⟨(hf b hb).1.2.2.2.1, (hf b hb).1.2.1, (hf b hb).1.2.2.2.2.1, (hf b hb).1.2.2.2.2.2⟩
  obtain ⟨m, hn, _⟩ := J.loc
  exact ⟨I2, ⟨J.free, (I.fpOk (H' := H') (Nat.le_refl _) J.free).2⟩, m, hn⟩
end

/-- the tests of a comprehension: none, or one -/
def PIfs (X : Cx) (ifs : List Expr) (t : TT) : Prop := ∀ (pins : List (Addr × Obj)) (s : Shared) (σ : St) (H : Hp) (Q : Bool → Hp → Prop), Inv X pins σ H s → t σ H Q →
  wpAny (model X.prog X.w) X.A (forIn ifs true fun c r => if r = true then do let ok ← isTrue c X.env (eval c X.env); pure (ForInStep.yield ok) else pure (ForInStep.yield r)) (TP X pins σ Q) X.xe s
theorem pifs_nil {X : Cx} : PIfs X [] (fun _ H Q => Q true H) := fun _ _ _ H _ I h => wpAny_tests_nil ⟨H, I, h⟩
theorem pifs_one {X : Cx} {c : Expr} {t : TT} (h : PT X c t) : PIfs X [c] t := fun pins s σ H Q I hw => wpAny_tests_one (h pins s σ H Q I hw)

/-- the reading: at each turn the item is stored, tested, the element put behind the list at p -/
def tComp (wi : TI) (g : TG) (tc : TT) (te : TE) (own : List Str) (fv : FV) : TE := fun σ H Q => wi σ H fun J H1 => ∀ p, H1 p = none → ∃ W : Nat → Nat → Hp → Prop, (∃ m, W 0 m (upd H1 p (.lst []))) ∧ ∀ i m H2, W i m H2 →
  (J.stop i H2 ∧ Q (.ref p) H2) ∨ (J.go i H2 ∧ ∀ x H3, J.yld i H2 x H3 → g x (blk own fv σ) H3 fun σ2 H4 => tc σ2 H4 fun b H5 => if b = true then te σ2 H5 fun v H6 => ∃ acc, H6 p = some (.lst acc) ∧ acc.length < sizeLine ∧
    ∃ m', m' < m ∧ W (i + 1) m' (upd H6 p (.lst (acc ++ [v]))) else ∃ m', m' < m ∧ W (i + 1) m' H5)

theorem comp_core {X : Cx} {pins : List (Addr × Obj)} {σ : St} {H : Hp} {s : Shared} {elt target iter : Expr} {ifs : List Expr} {scope : Scope} {pos fpos : Pos} {N' own : List Str} {fv : FV} {wi : TI} {g : TG} {tc : TT} {te : TE} {R : VK} {use : Option (Value → Sem Unit)} {Q' : Value → Shared → Prop}
    (c : CompOk X.env.scope X.N scope N' own fv) (hcalm : X.calm = true) (hi : PI X target iter wi)
    (hgk : ∀ x σ H Q, g x σ H Q → g x σ H fun σ' H' => (σ'.length = σ.length ∧ ∀ i, own.length ≤ i → σ'[i]? = σ[i]?) ∧ Q σ' H')
    (hb : ∀ cl s₁ H₁ fp, PG (cxC X N' scope cl s₁ H₁ fp pins) target g ∧ PIfs (cxC X N' scope cl s₁ H₁ fp pins) ifs tc ∧ PE (cxC X N' scope cl s₁ H₁ fp pins) elt te)
    (hs : ∀ x, foldedSetIterable iter X.env x = pure x) (I : Inv X pins σ H s) (h : tComp wi g tc te own fv σ H R)
    (fin : ∀ (p C : Addr) (H' : Hp) (s' : Shared) (m : Str → Option Value), Inv X pins σ H' s' → FpOk X pins H' C → s'.heap.Ns C m → R (.ref p) H' → compPost (model X.prog X.w) X.A X.xe use Q' (.ref p) C (.ok .next) s') :
    wpAny (model X.prog X.w) X.A (comprehension (.ListComp elt [⟨target, iter, ifs, 0⟩] scope pos) scope X.env fpos (newList []) false (eval iter X.env) use) Q' X.xe s := by
  obtain ⟨cl, hclos, h1, h2⟩ := closure_ok (scope := scope) (env := X.env) fun y hy => I.ok.has y (.inl (c.fre y hy))
  refine wpAny_comprehension_free (use := use) rfl hs hclos c.kind c.loc (wpAny_mono (hi pins s σ H _ I h) (fun v s1 h1' => wpAny_mono h1' (fun itv s2 h2' => ?_) fun _ _ e => e) fun _ _ e => e)
  obtain ⟨it, fp, tn, J, H2, rfl, I2, T, st2, f2, q2⟩ := h2'
  refine wpAny_newObj_type ?_
  -- the list
  have I3 : Inv X pins σ (upd H2 s2.heap.objs.size (.lst [])) { s2 with heap := s2.heap.push { cls := .type "list", data := .seq ([] : List Value).toArray } } := I2.lnew (t' := s2.toks) (ys := []) (its := []) .nil (Nat.zero_le _)
  have np : H2 s2.heap.objs.size = none := I2.fresh
  generalize hs3 : ({ s2 with heap := s2.heap.push { cls := .type "list", data := .seq ([] : List Value).toArray } } : Shared) = s3 at I3
  have e3 : s3.heap = s2.heap.push { cls := .type "list", data := .seq ([] : List Value).toArray } := by rw [← hs3]
  have old3 : ∀ b o, s2.heap.get? b = some o → s3.heap.get? b = some o := fun b o e => by rw [e3]; exact Heap.get?_push_of_some _ e
  have f3 : ∀ b ∈ fp, FpOk X pins (upd H2 s2.heap.objs.size (.lst [])) b ∧ b < s3.heap.objs.size := fun b hb => by
    obtain ⟨o, ho, _⟩ := T.obj 0 _ st2 b hb
    have hlt := Heap.lt_size ho
    refine ⟨⟨?_, (f2 b hb).2⟩, Heap.lt_size (old3 b o ho)⟩
    rw [upd_ne (Nat.ne_of_lt hlt)]
    exact (f2 b hb).1
  have st3 : tn 0 s3.heap := T.keep 0 _ _ st2 fun b hb o e => old3 b o e
  refine wpAny_newFunctionEnv c.nocell (by intro y hy; simp at hy) (fun h' hns hsb => ?_) c.kind
  have kp : ∀ b o, s3.heap.get? b = some o → h'.get? b = some o := fun b o e => (hsb.2 b (Nat.ne_of_lt (Heap.lt_size e))).trans (Heap.get?_push_of_some _ e)
  have J0 : Inv (cxC X N' scope cl s3 (upd H2 s2.heap.objs.size (.lst [])) fp pins) [] (blk own fv σ) (upd H2 s2.heap.objs.size (.lst [])) { s3 with heap := h', toks := s3.toks + ([] : List (Str × Value)).length } := inv_block I3 c h1 h2 f3 hns kp
  have st4 : tn 0 h' := T.keep 0 _ _ st3 fun b hb o e => kp b o e
  obtain ⟨W, ⟨m0, w0⟩, turn⟩ := q2 s2.heap.objs.size np
  obtain ⟨hg, hifs, helt⟩ := hb cl s3 (upd H2 s2.heap.objs.size (.lst [])) fp
  have noP : ∀ b ∈ fp, b ≠ s3.heap.objs.size := fun b hb => Nat.ne_of_lt (f3 b hb).2
  have stat : ∀ {H' : Hp}, (∀ b ∈ fp, H' b = none) → ∀ b ∈ fp, FpOk (cxC X N' scope cl s3 (upd H2 s2.heap.objs.size (.lst [])) fp pins) [] H' b := fun hn b hb => by
    obtain ⟨⟨_, g1, g2, g3, g4, g5⟩, g6⟩ := f3 b hb
    refine ⟨hn b hb, Nat.ne_of_lt g6, fun hm => ?_, .inl hb, fun x a e => g4 x a (h1 x a e), fun p hp => g5 p (by simpa [cxC] using hp)⟩
    rcases List.mem_cons.mp (I3.stkSub b hm) with z | z
    · exact g1 z
    · exact g2 z
  have loop : codeAny (model X.prog X.w) X.A (.compLoop (.ListComp elt [⟨target, iter, ifs, 0⟩] scope pos) 0 (.ref it) (.ref s2.heap.objs.size) (compEnvC scope cl s3.heap.objs.size X.env))
      (compPost (model X.prog X.w) X.A X.xe use Q' (.ref s2.heap.objs.size) s3.heap.objs.size) { s3 with heap := h', toks := s3.toks + ([] : List (Str × Value)).length } := by
    refine comp_loop (fun n s' => ∃ i H' σ', Inv (cxC X N' scope cl s3 (upd H2 s2.heap.objs.size (.lst [])) fp pins) [] (blk own fv σ) H' s' ∧ σ' = blk own fv σ ∧ tn i s'.heap ∧ (∀ b ∈ fp, H' b = none) ∧ W i n H') ?_ m0 ⟨0, _, _, J0, rfl, st4, fun b hb => (f3 b hb).1.1, w0⟩
    rintro n s5 ⟨i, H5, _, J5, rfl, st5, fr5, w5⟩
    rcases turn i n H5 w5 with ⟨stop, qn⟩ | ⟨go, step⟩
    · refine thn (T.done (cxC X N' scope cl s3 (upd H2 s2.heap.objs.size (.lst [])) fp pins) rfl rfl rfl hcalm i [] s5 _ H5 _ J5 (stat fr5) st5 stop) fun r s6 hr => ?_
      obtain ⟨rfl, J6⟩ := hr
      obtain ⟨I6, f6, m6, n6⟩ := inv_left I3 f3 J6
      exact fin _ _ H5 s6 m6 I6 f6 n6 qn
    · refine thn (T.item (cxC X N' scope cl s3 (upd H2 s2.heap.objs.size (.lst [])) fp pins) rfl rfl rfl hcalm i [] s5 _ H5 _ J5 (stat fr5) st5 go) fun r s6 hr => ?_
      obtain ⟨u, rfl, h6⟩ := hr
      refine thn h6 fun _ s7 h7 => ?_
      obtain ⟨x, H7, J7, r7, y7, st7, fr7⟩ := h7
      have J7' := J7.pinned (stat fr7) (T.obj _ _ st7)
      refine thn (hg _ s7 _ H7 x u _ J7' r7 (hgk _ _ _ _ (step x H7 y7))) fun _ s8 h8 => ?_
      obtain ⟨σ8, H8, J8, ⟨l8, k8⟩, q8⟩ := h8
      refine thn (hifs _ s8 σ8 H8 _ J8 q8) fun ok s9 h9 => ?_
      obtain ⟨H9, J9, q9⟩ := h9
      have weak : ∀ {H' : Hp} {s' : Shared}, Inv (cxC X N' scope cl s3 (upd H2 s2.heap.objs.size (.lst [])) fp pins) ([] ++ pinsAt fp s7.heap) σ8 H' s' →
          Inv (cxC X N' scope cl s3 (upd H2 s2.heap.objs.size (.lst [])) fp pins) [] (blk own fv σ) H' s' ∧ tn (i + 1) s'.heap ∧ ∀ b ∈ fp, H' b = none := fun {H' s'} J' => by
        refine ⟨J'.unpinned.weak l8.symm fun j v e => ?_, T.keep _ _ _ st7 fun b hb o e => (J'.pin (b, o) (List.mem_append_right _ (List.mem_append_right _ (mem_pinsAt hb e)))).1, fun b hb => ?_⟩
        · have hj : own.length ≤ j := Nat.le_of_not_lt fun hj => by
            unfold blk at e
            rw [List.getElem?_append_left (by simpa using hj), List.getElem?_map] at e
            cases z : own[j]? with
            | none => rw [z] at e; cases e
            | some y => rw [z] at e; cases e
          rw [k8 j hj]; exact e
        · obtain ⟨o, e, d⟩ := T.obj _ _ st7 b hb
          exact (J'.pin (b, o) (List.mem_append_right _ (List.mem_append_right _ (mem_pinsAt hb e)))).2.1
      cases ok with
      | false =>
        rw [if_neg Bool.false_ne_true] at q9 ⊢
        obtain ⟨m', hm, w9⟩ := q9
        obtain ⟨g1, g2, g3⟩ := weak J9
        exact ⟨m', hm, i + 1, H9, _, g1, rfl, g2, g3, w9⟩
      | true =>
        rw [if_pos rfl] at q9 ⊢
        refine thn (helt _ s9 σ8 H9 _ J9 q9) fun xv s10 h10 => ?_
        obtain ⟨v, H10, J10, r10, acc, ea, hl, m', hm, w10⟩ := h10
        refine thn (mt_append _ s10 σ8 H10 (.ref s2.heap.objs.size) [v] (.ref s2.heap.objs.size) [xv] (fun z H' => z = .non ∧ H' = upd H10 s2.heap.objs.size (.lst (acc ++ [v]))) J10 rfl (.cons r10 .nil) ⟨_, acc, v, rfl, rfl, ea, hl, rfl, rfl⟩) fun _ s11 h11 => ?_
        obtain ⟨z, H11, J11, _, _, rfl⟩ := h11
        obtain ⟨g1, g2, g3⟩ := weak J11
        exact ⟨m', hm, i + 1, _, _, g1, rfl, g2, g3, w10⟩
  exact codeAny_compStart_list loop (T.self X.A 0 _ _ _ st4 loop)

theorem pe_comp {X : Cx} {elt target iter : Expr} {ifs : List Expr} {scope : Scope} {pos : Pos} {N' own : List Str} {fv : FV} {wi : TI} {g : TG} {tc : TT} {te : TE}
    (c : CompOk X.env.scope X.N scope N' own fv) (hcalm : X.calm = true) (hi : PI X target iter wi)
    (hgk : ∀ x σ H Q, g x σ H Q → g x σ H fun σ' H' => (σ'.length = σ.length ∧ ∀ i, own.length ≤ i → σ'[i]? = σ[i]?) ∧ Q σ' H')
    (hb : ∀ pins cl s₁ H₁ fp, PG (cxC X N' scope cl s₁ H₁ fp pins) target g ∧ PIfs (cxC X N' scope cl s₁ H₁ fp pins) ifs tc ∧ PE (cxC X N' scope cl s₁ H₁ fp pins) elt te)
    (hs : ∀ x, foldedSetIterable iter X.env x = pure x := by intro _; rfl) : PE X (.ListComp elt [⟨target, iter, ifs, 0⟩] scope pos) (tComp wi g tc te own fv) := by
  intro pins s σ H Q I h
  rw [eval_ListComp]
  refine comp_core (use := none) (R := Q) c hcalm hi hgk (hb pins) hs I h fun p C H' s' m J f n q => ?_
  refine ⟨m, n, fun h' hs' => ⟨.ref p, H', J.turned (t' := s'.toks) (it := C) (fun b o hb e => (hs'.2 b hb).trans e) f.1 f.2.1 f.2.2.2.1 f.2.2.2.2.1 f.2.2.2.2.2, rfl, q⟩⟩

theorem ps_setcomp {X : Cx} {elt target iter : Expr} {ifs : List Expr} {scope : Scope} {pos spos py : Pos} {y : Str} {j : Nat} {N' own : List Str} {fv : FV} {wi : TI} {g : TG} {tc : TT} {te : TE}
    (hN : X.N.Nodup) (hj : X.N[j]? = some y) (hy : Loc X.env.scope y) (hsw : swapsWith (.ListComp elt [⟨target, iter, ifs, 0⟩] scope pos) (some (.Name y py)) spos.line X.env = pure true)
    (c : CompOk X.env.scope X.N scope N' own fv) (hcalm : X.calm = true) (hi : PI X target iter wi)
    (hgk : ∀ x σ H Q, g x σ H Q → g x σ H fun σ' H' => (σ'.length = σ.length ∧ ∀ i, own.length ≤ i → σ'[i]? = σ[i]?) ∧ Q σ' H')
    (hb : ∀ pins cl s₁ H₁ fp, PG (cxC X N' scope cl s₁ H₁ fp pins) target g ∧ PIfs (cxC X N' scope cl s₁ H₁ fp pins) ifs tc ∧ PE (cxC X N' scope cl s₁ H₁ fp pins) elt te)
    (hs : ∀ x, foldedSetIterable iter X.env x = pure x := by intro _; rfl) (hf : X.fn y = true ∨ X.env.scope.names.lookup y = some .local := by first | exact .inl rfl | exact .inr rfl | assumption) :
    PS X (.Assign [.Name y py] (.ListComp elt [⟨target, iter, ifs, 0⟩] scope pos) spos) (tAsg (tComp wi g tc te own fv) (gName j)) := by
  intro pins s σ H Dd I h
  rw [exec_Assign_Name_used _ _ _ _ hsw]
  refine wpAny_bind (wpAny_standAt (wpAny_bind ?_))
  show wpAny _ X.A (do let _ ← comprehension (.ListComp elt [⟨target, iter, ifs, 0⟩] scope pos) scope X.env _ (newList []) false (eval iter X.env) (some (assign (.Name y py) X.env))) _ _ s
  refine wpAny_bind (wpAny_mono (comp_core (use := some (assign (.Name y py) X.env)) (Q' := fun _ s' => SP X pins Dd .next s') c hcalm hi hgk (hb pins) hs I h fun p C H' s' m J f n q => ?_) (fun _ s' hq => wpAny_pure (wpAny_pure hq)) fun _ _ e => e)
  show wpAny _ X.A (assign (.Name y py) X.env (.ref p)) _ _ s'
  refine wpAny_assign_Name (store_ok2 J hN hj hy (v := .ref p) rfl (fun s'' J' hs'' => ?_) hf)
  obtain ⟨a, sb, ha⟩ := hs''
  have hC : C ≠ a := by
    rcases ha with z | z
    · rw [z]; exact f.2.1
    · exact fun w => f.2.2.2.2.1 _ _ z w.symm
  refine ⟨m, n.sameBut sb hC, fun h' hs' => ⟨_, H', J'.turned (t' := s''.toks) (it := C) (fun b o hb e => (hs'.2 b hb).trans e) f.1 f.2.1 f.2.2.2.1 f.2.2.2.2.1 f.2.2.2.2.2, q⟩⟩

/-! ### .. over data -/
/-- the results, item by item: none where the test says no. The elements leave the heap -/
def cp3 (wi : TI3) (g : TG3) (tc : TT3) (te : TE3) (own : List Str) (fv : FV) : TE3 := fun σ H Q => wi σ H fun ds keep H1 => (∀ H2 : Hp3, Sub3 H1 H2 → keep H2) ∧ ds.length ≤ 1000 ∧ ∃ rs : List (Option D), rs.length = ds.length ∧
  (∀ (i : Nat) (d : D), ds[i]? = some d → ∀ H2 : Hp3, Sub3 H1 H2 → g d (own.map (fun _ => none) ++ fv.map fun p => (σ[p.1]?).join) H2 fun σ2 H4 => tc σ2 H4 fun b H5 =>
    if b = true then te σ2 H5 fun v H6 => Sub3 H2 H6 ∧ rs[i]? = some (some v) else Sub3 H2 H5 ∧ rs[i]? = some none) ∧
  ∀ p, H1 p = none → Q (.ref p) (upd3 H1 p (.lst (rs.filterMap id)))
theorem sr_blk {K : PySem.W.Frag} {H : Hp} {σ3 : St3} {σ : St} {own : List Str} {fv : FV} (s : SR K H σ3 σ) : SR K H (own.map (fun _ => none) ++ fv.map fun p => (σ3[p.1]?).join) (blk own fv σ) := by
  refine ⟨by simp [blk], fun i d h => ?_⟩
  have hi : ¬ i < own.length := fun hi => by
    rw [List.getElem?_append_left (by simpa using hi), List.getElem?_map] at h
    cases z : own[i]? with
    | none => rw [z] at h; cases h
    | some y => rw [z] at h; cases h
  rw [List.getElem?_append_right (by simpa using hi), List.length_map, List.getElem?_map] at h
  unfold blk
  rw [List.getElem?_append_right (by simpa using hi), List.length_map, List.getElem?_map]
  cases z : fv[i - own.length]? with
  | none => rw [z] at h; cases h
  | some p =>
    rw [z] at h
    have h' : (σ3[p.1]?).join = some d := Option.some.inj h
    have e : σ3[p.1]? = some (some d) := by
      cases q : σ3[p.1]? with
      | none => rw [q] at h'; cases h'
      | some o => rw [q] at h'; rw [show o = some d from h']
    obtain ⟨v, hv, rv⟩ := s.get _ _ e
    exact ⟨v, by show some (σ[p.1]?).join = some (some v); rw [hv]; rfl, rv⟩
theorem filterMap_take_succ {rs : List (Option D)} {i : Nat} {o : Option D} (h : rs[i]? = some o) : (rs.take (i + 1)).filterMap id = (rs.take i).filterMap id ++ o.toList := by
  rw [List.take_add_one, h, List.filterMap_append]
  cases o <;> rfl
theorem lift_comp {K : PySem.W.Frag} {wi : TI3} {g : TG3} {g2 : TG} {tc : TT3} {te : TE3} {own : List Str} {fv : FV} {σ : St} {H : Hp} {Q : VK} (hgr : ∀ v σ H Q, liftG K g v σ H Q → g2 v σ H Q) (h : liftE K (cp3 wi g tc te own fv) σ H Q) : tComp (liftI K wi) g2 (liftT K tc) (liftE K te) own fv σ H Q := by
  obtain ⟨σ3, H3, Q3, sr, hr, t, k⟩ := h
  refine ⟨σ3, H3, _, sr, hr, t, fun ds keep J H3' H' tk' hr' ok q p np => ?_⟩
  obtain ⟨hkeep, hlen, rs, hrl, hel, hfin⟩ := q
  have np3 : H3' p = none := hr'.fresh np
  have hrs : ∀ i, ((rs.take i).filterMap id).length ≤ i := fun i => Nat.le_trans (List.length_filterMap_le _ _) (by rw [List.length_take]; omega)
  refine ⟨fun i m H2 => m = ds.length - i ∧ i ≤ ds.length ∧ TK H' H2 ∧ HR K (upd3 H3' p (.lst ((rs.take i).filterMap id))) H2, ⟨ds.length, by simp, Nat.zero_le _, TK.fresh np, hr'.setL (TK.fresh np) (.nil)⟩, ?_⟩
  rintro i m H2 ⟨rfl, hi, tk2, hr2⟩
  have sub2 : Sub3 H3' (upd3 H3' p (.lst ((rs.take i).filterMap id))) := Sub3.fresh np3
  obtain ⟨go, stop⟩ := ok _ H2 tk2 hr2 (hkeep _ sub2)
  by_cases hlt : i < ds.length
  · obtain ⟨g1, g2⟩ := go i hlt
    refine .inr ⟨g1, fun x H2' y => ?_⟩
    obtain ⟨tky, hry, d, ed, rd⟩ := g2 x H2' y
    replace tk2 := tk2.trans tky
    refine hgr _ _ _ _ ⟨d, _, _, _, rd, (sr_blk sr).mono (tk'.trans tk2), hry, hel i d ed _ sub2, fun σ3a σa H3a Ha tka sra hra qa => ⟨σ3a, H3a, _, sra, hra, qa, fun b H3b Hb tkb hrb qb => ?_⟩⟩
    cases b with
    | true =>
      rw [if_pos rfl] at qb ⊢
      refine ⟨σ3a, H3b, _, sra.mono tkb, hrb, qb, fun v u H3c Hc tkc hrc rv qc => ?_⟩
      obtain ⟨sub, ers⟩ := qc
      obtain ⟨acc, gacc, racc⟩ := hrc p _ (sub p _ upd3_same)
      refine ⟨acc, gacc, ?_, ds.length - (i + 1), by omega, rfl, hlt, ((tk2.trans tka).trans (tkb.trans tkc)).trans (TK.lst gacc), ?_⟩
      · rw [← racc.length]
        exact small1000 (Nat.le_trans (hrs i) (Nat.le_trans hi hlen))
      · rw [filterMap_take_succ ers, ← upd3_upd3]
        exact (hrc.sub sub).setL (TK.lst gacc) ((racc.snoc rv).mono (TK.lst gacc))
    | false =>
      rw [if_neg Bool.false_ne_true] at qb ⊢
      obtain ⟨sub, ers⟩ := qb
      refine ⟨ds.length - (i + 1), by omega, rfl, hlt, (tk2.trans tka).trans tkb, ?_⟩
      rw [filterMap_take_succ ers]
      simp only [Option.toList, List.append_nil]
      exact hrb.sub sub
  · have e : i = ds.length := by omega
    subst e
    refine .inl ⟨stop, k _ _ _ _ (tk'.trans tk2) hr2 (.ref p) ?_⟩
    rw [List.take_of_length_le (by rw [hrl]; exact Nat.le_refl _)]
    exact hfin p np3
def yes3 : TT3 := fun _ H Q => Q true H
def PIfs3 (X : Cx) (ifs : List Expr) (t : TT3) : Prop := PIfs X ifs (liftT X.K t)
theorem ifs3_nil {X : Cx} : PIfs3 X [] yes3 := fun pins s σ H Q I h => by
  obtain ⟨σ3, H3, Q3, sr, hr, t, k⟩ := h
  exact pifs_nil pins s σ H Q I (k _ _ _ TK.refl hr t)
theorem ifs3_one {X : Cx} {c : Expr} {t : TT3} (h : PT3 X c t) : PIfs3 X [c] t := pifs_one h
theorem gr_name {K : PySem.W.Frag} {i : Nat} : ∀ v σ H Q, liftG K (gn3 i) v σ H Q → gName i v σ H Q := fun _ _ _ _ ⟨_, _, _, _, rd, sr, hr, t, k⟩ => k _ _ _ _ TK.refl (sr.set i rd) hr t
theorem gk_name {n i : Nat} (hi : i < n) : ∀ x σ H Q, gName i x σ H Q → gName i x σ H fun σ' H' => (σ'.length = σ.length ∧ ∀ j, n ≤ j → σ'[j]? = σ[j]?) ∧ Q σ' H' := fun x σ H Q h =>
  ⟨⟨by simp, fun j hj => List.getElem?_set_ne (by omega)⟩, h⟩
section
variable {X : Cx} {elt iter : Expr} {ifs : List Expr} {scope : Scope} {pos px py pt spos : Pos} {x x' y : Str} {fv : FV} {wi : TI3} {tc : TT3} {te : TE3} {kk : Nat}
/-- [elt for x in iter if ..] -/
theorem p3_comp (c : CompOk X.env.scope X.N scope (x :: fv.map (·.2)) [x] fv) (hcalm : X.calm = true) (hi : PI3 X (.Name x px) iter wi)
    (hifs : ∀ pins cl s₁ H₁ fp, PIfs3 (cxC X (x :: fv.map (·.2)) scope cl s₁ H₁ fp pins) ifs tc) (helt : ∀ pins cl s₁ H₁ fp, PE3 (cxC X (x :: fv.map (·.2)) scope cl s₁ H₁ fp pins) elt te)
    (hx : (relabel scope X.env).names.lookup x = some .local := by rfl) (hs : ∀ x, foldedSetIterable iter X.env x = pure x := by intro _; rfl) : PE3 X (.ListComp elt [⟨.Name x px, iter, ifs, 0⟩] scope pos) (cp3 wi (gn3 0) tc te [x] fv) :=
  pe_imp (pe_comp (g := gName 0) (tc := liftT X.K tc) (te := liftE X.K te) c hcalm hi (gk_name (Nat.zero_lt_one)) (fun pins cl s₁ H₁ fp => ⟨pg_name c.nd rfl (.inl hx) (.inr hx), hifs pins cl s₁ H₁ fp, helt pins cl s₁ H₁ fp⟩) hs) fun _ _ _ h => lift_comp gr_name h
theorem s3_setcomp (j : Nat) (hN : X.N.Nodup) (c : CompOk X.env.scope X.N scope (x :: fv.map (·.2)) [x] fv) (hcalm : X.calm = true) (hi : PI3 X (.Name x px) iter wi)
    (hifs : ∀ pins cl s₁ H₁ fp, PIfs3 (cxC X (x :: fv.map (·.2)) scope cl s₁ H₁ fp pins) ifs tc) (helt : ∀ pins cl s₁ H₁ fp, PE3 (cxC X (x :: fv.map (·.2)) scope cl s₁ H₁ fp pins) elt te)
    (hj : X.N[j]? = some y := by rfl) (hy : Loc X.env.scope y := by first | exact Or.inl rfl | exact Or.inr rfl) (hsw : swapsWith (.ListComp elt [⟨.Name x px, iter, ifs, 0⟩] scope pos) (some (.Name y py)) spos.line X.env = pure true := by rfl)
    (hx : (relabel scope X.env).names.lookup x = some .local := by rfl) (hs : ∀ x, foldedSetIterable iter X.env x = pure x := by intro _; rfl) (hf : X.fn y = true ∨ X.env.scope.names.lookup y = some .local := by first | exact .inl rfl | exact .inr rfl | assumption) :
    PS3 X (.Assign [.Name y py] (.ListComp elt [⟨.Name x px, iter, ifs, 0⟩] scope pos) spos) (st3 j (cp3 wi (gn3 0) tc te [x] fv)) :=
  ps_imp (ps_setcomp (g := gName 0) (tc := liftT X.K tc) (te := liftE X.K te) hN hj hy hsw c hcalm hi (gk_name (Nat.zero_lt_one)) (fun pins cl s₁ H₁ fp => ⟨pg_name c.nd rfl (.inl hx) (.inr hx), hifs pins cl s₁ H₁ fp, helt pins cl s₁ H₁ fp⟩) hs hf)
    fun _ _ _ ⟨σ3, H3, D3, sr, hr, t, k⟩ => lift_comp gr_name ⟨σ3, H3, _, sr, hr, t, fun x v H3a Ha tka hra rx qa => k.nx _ _ _ _ tka ((sr.mono tka).set j rx) hra qa⟩
end
end L3

namespace L3
open PySem L2
def i3sub : R3 := rI30 fun i j => .int (i - j)
def i3mul : R3 := rI3 CMul fun i j => .int (i * j)
def i3div : R3 := rI3 CDiv fun i j => .int (i / j)
def i3mod : R3 := rI3 (fun _ j => 0 < j) fun i j => .int (i % j)
def i3pow : R3 := rI3 CPow fun i j => .int (i ^ j.toNat)
def i3le : R3 := rI30 fun i j => .bl (decide (i ≤ j))
def i3gt : R3 := rI30 fun i j => .bl (decide (j < i))
def i3ge : R3 := rI30 fun i j => .bl (decide (j ≤ i))
theorem intsOf_map : ∀ ns : List Int, intsOf (ns.map D.int) = some ns
  | [] => rfl
  | n :: ns => by simp only [List.map_cons, intsOf, intsOf_map ns, Option.map_some]
def r3ins : D → List D → Hp3 → VK3 → Prop := fun x xs H Q => match x, xs with
  | .ref a, [.int i, y] => (match H a with
    | some (.lst ds) => ((0 ≤ i ∧ i ≤ ds.length) ∧ ds.length < 1000) ∧ Q .non (upd3 H a (.lst (ds.take i.toNat ++ y :: ds.drop i.toNat)))
    | _ => False)
  | _, _ => False
abbrev Pt := Int × Int
def prP (p : Pt) : D := .tup [.int p.1, .int p.2]
def ptsOf : List D → Option (List Pt)
  | [] => some []
  | .tup [.int x, .int y] :: ds => (ptsOf ds).map ((x, y) :: ·)
  | _ :: _ => none
/-! ### the order of pairs: the second number first -/
def ltc (c r : Pt) : Bool := HT.lexLt [r.2, r.1] [c.2, c.1]
def insP (row : List Pt) (c : Pt) : List Pt := row.takeWhile (ltc c) ++ c :: row.dropWhile (ltc c)
def isort (ps : List Pt) : List Pt := ps.foldl insP []
/-- the key of a pair: its numbers the other way round -/
def KeyOk (sp : Sp3) : Prop := ∀ (c : Pt) (H3 : Hp3) (Q3 : VK3), Q3 (.tup [.int c.2, .int c.1]) H3 → sp [prP c] H3 Q3
def sok (sp : Sp3) (x : D) (H1 : Hp3) (Q : VK3) : Prop := match x with
  | .ref a => (match H1 a with
    | some (.lst ds) => (match ptsOf ds with
      | some ps => KeyOk sp ∧ ps.length < 64 ∧ ∀ p, H1 p = none → Q (.ref p) (upd3 H1 p (.lst ((isort ps).map prP)))
      | none => False)
    | _ => False)
  | _ => False
def so3 (sp : Sp3) (te : TE3) : TE3 := fun σ H Q => te σ H fun x H1 => sok sp x H1 Q
end L3

namespace L3
open PySem PySem.Spec PyProof.Rows L2
section
variable {X : Cx}
/-! ### insert -/
def rInsert : V → List V → Hp → VK → Prop := fun x vs H Q => ∃ l xs i y, x = .ref l ∧ vs = [.int i, y] ∧ H l = some (.lst xs) ∧ (0 ≤ i ∧ i ≤ xs.length) ∧ xs.length < sizeLine ∧ Q .non (upd H l (.lst (xs.take i.toNat ++ y :: xs.drop i.toNat)))
theorem mt_insert : MtM X "list.insert" rInsert := by
  intro pins s σ H x vs v us Q I rx rv h
  obtain ⟨l, xs, i, y, rfl, rfl, hH, hi, hz, q⟩ := h
  cases rx
  obtain ⟨u, w', rfl, ru, ry⟩ := rv.two
  obtain ⟨t, rfl⟩ := ru
  obtain ⟨z, its, n, r, hl, e⟩ := I.lstM hH
  have hs := sizeLine_eq
  have hfit : Builtin.List.listFitsIndex i = true := by
    unfold Builtin.List.listFitsIndex
    simp only [Bool.and_eq_true, decide_eq_true_eq]
    constructor <;> omega
  refine call_meets PySem.F.slot_list_insert ⟨_, e, rfl⟩ PySem.F.entry_list_insert (PySem.F.args_list_insert_3 _ _ _)
    (PySem.AutoSeq1.list_insert_list_int_val_1 l its.toArray n i t w' (by simp [hfit]) (by rw [List.size_toArray]; omega)) ⟨e, ?_⟩
  refine ⟨.non, _, I.lset (its' := its.take i.toNat ++ w' :: its.drop i.toNat) hH e ?_ ((r.take _).append (.cons ry (r.drop _))) ?_, rfl, q⟩
  · have hk : (if i < 0 then (i + (its.toArray.size : Int)).toNat else min i.toNat its.toArray.size) = i.toNat := by
      rw [if_neg (by omega), List.size_toArray]; omega
    show (its.toArray.extract 0 (if i < 0 then (i + (its.toArray.size : Int)).toNat else min i.toNat its.toArray.size)).push w' ++ its.toArray.extract (if i < 0 then (i + (its.toArray.size : Int)).toNat else min i.toNat its.toArray.size) = _
    rw [hk]
    apply Array.ext'
    simp
    exact List.take_of_length_le (by rw [List.length_drop]; exact Nat.le_refl _)
  · simp only [List.length_append, List.length_cons, List.length_take, List.length_drop]
    omega
theorem mt3_ins : MtR X "list.insert" (liftM X.K r3ins) := by
  intro pins s σ H x xs v us Q I rx rs h
  obtain ⟨d, ds, H3, Q3, hr, rd, rds, t, k⟩ := h
  cases rd with
  | ref a =>
    cases rds with
    | nil => exact t.elim
    | cons r1 r2 =>
      cases r2 with
      | nil => cases r1 <;> exact t.elim
      | cons r2 r3 =>
        cases r3 with
        | cons _ _ => cases r1 <;> exact t.elim
        | nil =>
          cases r1 with
          | int i =>
            simp only [r3ins] at t
            split at t
            · rename_i ds ha
              obtain ⟨vs, ga, ra⟩ := hr a _ ha
              obtain ⟨⟨hi, hl⟩, q⟩ := t
              exact mt_insert pins s σ H _ _ v us Q I rx rs ⟨a, vs, i, _, rfl, rfl, ga, by rw [← ra.length]; exact hi, by rw [← ra.length]; exact small1000 (Nat.le_of_lt hl),
                k _ _ _ _ (TK.lst ga) (hr.setL (TK.lst ga) (((ra.take _).append (.cons r2 (ra.drop _))).mono (TK.lst ga))) .non q⟩
            · exact t.elim
          | _ => exact t.elim
  | _ => exact t.elim
/-! ### min, max of a list of ints -/
end
end L3

namespace L3
open PySem L2
/-! ### steps: a rule for each reading, from its head on -/
theorem sizeLine_n : sizeLine = 16777216 := by decide
theorem upd3_old {H : Hp3} {a p : Addr} {o u : O3} (h : H a = some o) (n : H p = none) : upd3 H p u a = some o := by rw [upd3_ne (ne3 h n)]; exact h
theorem sub_upd {H H2 : Hp3} {p : Addr} {o : O3} (s : Sub3 H H2) (h : H2 p = some o) : Sub3 (upd3 H p o) H2 := fun b u e => by
  by_cases hb : b = p
  · subst hb; rw [upd3_same] at e; cases e; exact h
  · rw [upd3_ne hb] at e; exact s b u e
section
variable {σ : St3} {H : Hp3} {Q : VK3} {D0 : Ends3} {i j : Int} {a b : Addr} {d x y : D} {ds es : List D} {ta tb te tc : TE3} {tr : TA3} {t u : TS3} {cA cB : TT3} {QL : List D → Hp3 → Prop} {QB : Bool → Hp3 → Prop}
theorem g_v3 {k : Nat} (h : σ[k]? = some (some d)) (q : Q d H) : v3 k σ H Q := by unfold v3; rw [h]; exact q
theorem g_c3 (q : Q d H) : c3 d σ H Q := q
theorem g_o3 {r : R3} (h : ta σ H fun x H1 => tb σ H1 fun y H2 => r x y H2 Q) : o3 r ta tb σ H Q := h
theorem g_u3 {r : D → Hp3 → VK3 → Prop} (h : ta σ H fun x H1 => r x H1 Q) : u3 r ta σ H Q := h
theorem g_neg (q : Q (.int (-i)) H) : r3neg (.int i) H Q := q
theorem g_sub (q : Q (.int (i - j)) H) : i3sub (.int i) (.int j) H Q := q
theorem g_add (q : Q (.int (i + j)) H) : r3add (.int i) (.int j) H Q := q
theorem g_cat (ha : H a = some (.lst ds)) (hb : H b = some (.lst es)) (hl : ds.length + es.length ≤ sizeLine) (q : ∀ p, H p = none → Q (.ref p) (upd3 H p (.lst (ds ++ es)))) : r3add (.ref a) (.ref b) H Q := by
  simp only [r3add, ha, hb]; exact ⟨hl, q⟩
theorem g_mul (c : CMul i j) (q : Q (.int (i * j)) H) : i3mul (.int i) (.int j) H Q := ⟨c, q⟩
theorem g_div (c : CDiv i j) (q : Q (.int (i / j)) H) : i3div (.int i) (.int j) H Q := ⟨c, q⟩
theorem g_mod (c : 0 < j) (q : Q (.int (i % j)) H) : i3mod (.int i) (.int j) H Q := ⟨c, q⟩
theorem g_pow (c : CPow i j) (q : Q (.int (i ^ j.toNat)) H) : i3pow (.int i) (.int j) H Q := ⟨c, q⟩
theorem g_le (q : Q (.bl (decide (i ≤ j))) H) : i3le (.int i) (.int j) H Q := q
theorem g_gt (q : Q (.bl (decide (j < i))) H) : i3gt (.int i) (.int j) H Q := q
theorem g_ge (q : Q (.bl (decide (j ≤ i))) H) : i3ge (.int i) (.int j) H Q := q
theorem g_lt (q : Q (.bl (decide (i < j))) H) : r3lt (.int i) (.int j) H Q := q
theorem g_ltT {x1 x2 y1 y2 : Int} (q : Q (.bl (HT.lexLt [x1, x2] [y1, y2])) H) : r3lt (.tup [.int x1, .int x2]) (.tup [.int y1, .int y2]) H Q := q
theorem g_eqI (q : Q (.bl (decide (i = j))) H) : r3eq (.int i) (.int j) H Q := by
  have e : (i == j) = decide (i = j) := rfl
  simp only [r3eq, pyH, pyN, PyData.eqv, e]; exact q
theorem g_neI (q : Q (.bl (!decide (i = j))) H) : r3ne (.int i) (.int j) H Q := by
  have e : (i == j) = decide (i = j) := rfl
  simp only [r3ne, pyH, pyN, PyData.eqv, e]; exact q
theorem g_eqP {x1 x2 y1 y2 : Int} (q : Q (.bl (decide ((x1, x2) = (y1, y2)))) H) : r3eq (.tup [.int x1, .int x2]) (.tup [.int y1, .int y2]) H Q := by
  have e : (PyData.eqvAll [.int x1, .int x2] [.int y1, .int y2]) = decide ((x1, x2) = (y1, y2)) := by
    simp only [PyData.eqvAll, PyData.eqv, Bool.and_true, Prod.mk.injEq, Bool.decide_and]; rfl
  simp only [r3eq, pyH, pyN, mapO, Option.map_some, PyData.eqv, e]; exact q
theorem g_neP {x1 x2 y1 y2 : Int} (q : Q (.bl (!decide ((x1, x2) = (y1, y2)))) H) : r3ne (.tup [.int x1, .int x2]) (.tup [.int y1, .int y2]) H Q := by
  have e : (PyData.eqvAll [.int x1, .int x2] [.int y1, .int y2]) = decide ((x1, x2) = (y1, y2)) := by
    simp only [PyData.eqvAll, PyData.eqv, Bool.and_true, Prod.mk.injEq, Bool.decide_and]; rfl
  simp only [r3ne, pyH, pyN, mapO, Option.map_some, PyData.eqv, e]; exact q
theorem g_isN (q : Q (.bl (isN x)) H) : r3isN x .non H Q := q
theorem g_notN (q : Q (.bl (!isN x)) H) : r3notN x .non H Q := q
theorem g_ixT (h : atI ds i = some d) (q : Q d H) : r3ix (.tup ds) (.int i) H Q := by simp only [r3ix, h]; exact q
theorem g_ixF (h : atI ds i = some d) (q : Q d H) : r3ix (.fl ds) (.int i) H Q := by simp only [r3ix, h]; exact q
theorem g_ixL (ha : H a = some (.lst ds)) (h : atI ds i = some d) (q : Q d H) : r3ix (.ref a) (.int i) H Q := by simp only [r3ix, ha, h]; exact q
theorem g_ts (h : te σ H fun d H1 => bt d H1 QB) : ts3 te σ H QB := h
theorem g_bt {k : Bool} (q : QB k H) : bt (.bl k) H QB := q
theorem g_an (h : cA σ H fun c H1 => if c = true then cB σ H1 QB else QB false H1) : an3 cA cB σ H QB := h
theorem g_or (h : cA σ H fun c H1 => if c = true then QB true H1 else cB σ H1 QB) : or3 cA cB σ H QB := h
theorem g_no (h : cA σ H fun c H1 => QB (!c) H1) : no3 cA σ H QB := h
def avk (tb : TE3) (σ : St3) (x : D) (H1 : Hp3) (Q : VK3) : Prop := match x with
  | .bl c => if c = true then tb σ H1 Q else Q (.bl false) H1
  | _ => False
def ovk (tb : TE3) (σ : St3) (x : D) (H1 : Hp3) (Q : VK3) : Prop := match x with
  | .bl c => if c = true then Q (.bl true) H1 else tb σ H1 Q
  | _ => False
def nvk (x : D) (H1 : Hp3) (Q : VK3) : Prop := match x with
  | .bl c => Q (.bl (!c)) H1
  | _ => False
theorem g_av (h : ta σ H fun x H1 => avk tb σ x H1 Q) : av3 ta tb σ H Q := h
theorem g_avk {c : Bool} (h : if c = true then tb σ H Q else Q (.bl false) H) : avk tb σ (.bl c) H Q := h
theorem g_ov (h : ta σ H fun x H1 => ovk tb σ x H1 Q) : ov3 ta tb σ H Q := h
theorem g_ovk {c : Bool} (h : if c = true then Q (.bl true) H else tb σ H Q) : ovk tb σ (.bl c) H Q := h
theorem g_nv (h : ta σ H fun x H1 => nvk x H1 Q) : nv3 ta σ H Q := h
theorem g_nvk {c : Bool} (q : Q (.bl (!c)) H) : nvk (.bl c) H Q := q
theorem g_if3 (h : cA σ H fun c H1 => if c = true then ta σ H1 Q else tb σ H1 Q) : if3 cA ta tb σ H Q := h
theorem g_nil (q : QL [] H) : nil3 σ H QL := q
theorem g_cons (h : ta σ H fun x H1 => tr σ H1 fun xs H2 => QL (x :: xs) H2) : cons3 ta tr σ H QL := h
theorem g_tp (h : tr σ H fun ds H1 => ds.length ≤ 1000 ∧ Q (.tup ds) H1) : tp3 tr σ H Q := h
theorem g_ls (h : tr σ H fun ds H1 => ds.length ≤ 1000 ∧ ∀ p, H1 p = none → Q (.ref p) (upd3 H1 p (.lst ds))) : ls3 tr σ H Q := h
theorem g_and {q : Prop} {n : Nat} (h : Nat.ble ds.length n = true) (h2 : q) : ds.length ≤ n ∧ q := ⟨Nat.le_of_ble_eq_true h, h2⟩
theorem g_cb {r : List D → Hp3 → VK3 → Prop} (h : tr σ H fun ds H1 => r ds H1 Q) : cb3 r tr σ H Q := h
theorem g_lenT (q : Q (.int ds.length) H) : r3len [.tup ds] H Q := q
theorem g_lenF (q : Q (.int ds.length) H) : r3len [.fl ds] H Q := q
theorem g_lenL (ha : H a = some (.lst ds)) (q : Q (.int ds.length) H) : r3len [.ref a] H Q := by simp only [r3len, ha]; exact q
theorem g_tupT (q : Q (.tup ds) H) : r3tuple [.tup ds] H Q := q
theorem g_tupL (ha : H a = some (.lst ds)) (q : Q (.tup ds) H) : r3tuple [.ref a] H Q := by simp only [r3tuple, ha]; exact q
theorem g_listT (q : ∀ p, H p = none → Q (.ref p) (upd3 H p (.lst ds))) : r3list [.tup ds] H Q := q
theorem g_listL (ha : H a = some (.lst ds)) (q : ∀ p, H p = none → Q (.ref p) (upd3 H p (.lst ds))) : r3list [.ref a] H Q := by simp only [r3list, ha]; exact q
theorem g_sl {tl th : TO3} {r : RSl} (h : te σ H fun x H1 => tl σ H1 fun l H2 => th σ H2 fun u H3 => r x l u H3 Q) : sl3 r te tl th σ H Q := h
theorem g_np {QO : Option Int → Hp3 → Prop} (q : QO none H) : np3 σ H QO := q
def ptk (x : D) (H1 : Hp3) (QO : Option Int → Hp3 → Prop) : Prop := match x with
  | .int i => QO (some i) H1
  | _ => False
theorem g_pt {QO : Option Int → Hp3 → Prop} (h : te σ H fun x H1 => ptk x H1 QO) : pt3 te σ H QO := h
theorem g_ptk {QO : Option Int → Hp3 → Prop} (q : QO (some i) H) : ptk (.int i) H QO := q
theorem g_slF {lo hi : Option Int} (q : ∀ p, H p = none → Q (.ref p) (upd3 H p (.lst (cut3 ds lo hi)))) : r3sl (.fl ds) lo hi H Q := q
theorem g_slL {lo hi : Option Int} (ha : H a = some (.lst ds)) (q : ∀ p, H p = none → Q (.ref p) (upd3 H p (.lst (cut3 ds lo hi)))) : r3sl (.ref a) lo hi H Q := by simp only [r3sl, ha]; exact q
/-! statements -/
theorem g_sq (h : t { D0 with nx := u D0 } σ H) : sq3 t u D0 σ H := h
theorem g_st {k : Nat} (h : te σ H fun x H1 => D0.nx (σ.set k (some x)) H1) : st3 k te D0 σ H := h
theorem g_nx3 (h : D0.nx σ H) : nx3 D0 σ H := h
theorem g_br3 (h : D0.bk σ H) : br3 D0 σ H := h
theorem g_co3 (h : D0.ct σ H) : co3 D0 σ H := h
theorem g_dr (h : te σ H fun _ H1 => D0.nx σ H1) : dr3 te D0 σ H := h
theorem g_rt3 (h : te σ H fun d H1 => D0.rt d H1) : rt3 te D0 σ H := h
theorem g_rn3 (h : D0.rt .non H) : rn3 D0 σ H := h
theorem g_is (h : cA σ H fun b H1 => if b = true then t D0 σ H1 else u D0 σ H1) : is3 cA t u D0 σ H := h
theorem g_as {g : TG3} (h : te σ H fun x H1 => g x σ H1 D0.nx) : as3 te g D0 σ H := h
theorem g_gn {k : Nat} {R : St3 → Hp3 → Prop} (h : R (σ.set k (some d)) H) : gn3 k d σ H R := h
theorem g_g2 {k l : Nat} {R : St3 → Hp3 → Prop} (h : R ((σ.set k (some x)).set l (some y)) H) : g2_3 k l (.tup [x, y]) σ H R := h
theorem g_g3 {k l m : Nat} {z : D} {R : St3 → Hp3 → Prop} (h : R (((σ.set k (some x)).set l (some y)).set m (some z)) H) : g3_3 k l m (.tup [x, y, z]) σ H R := h
theorem g_nx {n : St3 → Hp3 → Prop} {r : VK3} {bk ct : St3 → Hp3 → Prop} (h : n σ H) : Ends3.nx ⟨n, r, bk, ct⟩ σ H := h
theorem g_rt {n : St3 → Hp3 → Prop} {r : VK3} {bk ct : St3 → Hp3 → Prop} (h : r d H) : Ends3.rt ⟨n, r, bk, ct⟩ d H := h
theorem g_bk {n : St3 → Hp3 → Prop} {r : VK3} {bk ct : St3 → Hp3 → Prop} (h : bk σ H) : Ends3.bk ⟨n, r, bk, ct⟩ σ H := h
theorem g_ct {n : St3 → Hp3 → Prop} {r : VK3} {bk ct : St3 → Hp3 → Prop} (h : ct σ H) : Ends3.ct ⟨n, r, bk, ct⟩ σ H := h
theorem g_fin {H' : Hp3} (h : Q d H') (s : Sub3 H' H) : Ends3.rt (fin3 Q) d H := ⟨H', s, h⟩
/-! loops -/
def Lp (g : TG3) (tb : TS3) (D0 : Ends3) (σ : St3) (ds : List D) (keep : Hp3 → Prop) (H1 : Hp3) : Prop := ∃ P : Nat → St3 → Hp3 → Prop, P 0 σ H1 ∧ (∀ i σ H, i ≤ ds.length → P i σ H → keep H) ∧
  (∀ i d σ H, ds[i]? = some d → P i σ H → g d σ H fun σ2 H2 => tb { D0 with nx := P (i + 1), ct := P (i + 1), bk := D0.nx } σ2 H2) ∧ ∀ σ H, P ds.length σ H → D0.nx σ H
theorem g_fo {wi : TI3} {g : TG3} (h : wi σ H fun ds keep H1 => Lp g t D0 σ ds keep H1) : fo3 wi g t D0 σ H := h
theorem Lp.by {g : TG3} {keep : Hp3 → Prop} (P : Nat → St3 → Hp3 → Prop) (h0 : P 0 σ H) (hk : ∀ i σ H, i ≤ ds.length → P i σ H → keep H)
    (turn : ∀ i d σ H, ds[i]? = some d → P i σ H → g d σ H fun σ2 H2 => t { D0 with nx := P (i + 1), ct := P (i + 1), bk := D0.nx } σ2 H2) (fin : ∀ σ H, P ds.length σ H → D0.nx σ H) : Lp g t D0 σ ds keep H := ⟨P, h0, hk, turn, fin⟩
/-- over a range -/
theorem Lp.rng {g : TG3} {lo : Int} {n : Nat} (P : Nat → St3 → Hp3 → Prop) (h0 : P 0 σ H)
    (turn : ∀ (i : Nat) σ H, i < n → P i σ H → g (.int (lo + (i : Int))) σ H fun σ2 H2 => t { D0 with nx := P (i + 1), ct := P (i + 1), bk := D0.nx } σ2 H2) (fin : ∀ σ H, P n σ H → D0.nx σ H) : Lp g t D0 σ (rng lo n) (fun _ => True) H :=
  ⟨P, h0, fun _ _ _ _ _ => trivial, fun i d σ H hd p => by
    have hi : i < n := by
      have := (List.getElem?_eq_some_iff.mp hd).1
      rwa [rng_len] at this
    rw [rng_get hi] at hd
    cases hd
    exact turn i σ H hi p, fun σ H p => fin σ H (by rw [rng_len] at p; exact p)⟩
/-- of the heap only this is kept -/
theorem Lp.heap {g : TG3} {keep : Hp3 → Prop} (F : Hp3 → Prop) (hF : F H) (h : ∀ H', F H' → Lp g t D0 σ ds keep H') : Lp g t D0 σ ds keep H := h H hF
theorem g_ir1 {R : List D → (Hp3 → Prop) → Hp3 → Prop} (h : ta σ H fun x H1 => rg1 x H1 R) : ir1 ta σ H R := h
theorem g_ir2 {R : List D → (Hp3 → Prop) → Hp3 → Prop} (h : ta σ H fun x H1 => tb σ H1 fun y H2 => rg2 x y H2 R) : ir2 ta tb σ H R := h
theorem g_rg1 {R : List D → (Hp3 → Prop) → Hp3 → Prop} (h : R (rng 0 j.toNat) (fun _ => True) H) : rg1 (.int j) H R := h
theorem g_rg2 {R : List D → (Hp3 → Prop) → Hp3 → Prop} (h : R (rng i (j - i).toNat) (fun _ => True) H) : rg2 (.int i) (.int j) H R := h
def ilk (x : D) (H1 : Hp3) (R : List D → (Hp3 → Prop) → Hp3 → Prop) : Prop := match x with
  | .ref a => (match H1 a with
    | some (.lst ds) => R ds (fun H' => H' a = some (.lst ds)) H1
    | _ => False)
  | .fl ds => R ds (fun _ => True) H1
  | _ => False
def itk (x : D) (H1 : Hp3) (R : List D → (Hp3 → Prop) → Hp3 → Prop) : Prop := match x with
  | .tup ds => R ds (fun _ => True) H1
  | _ => False
theorem g_il {R : List D → (Hp3 → Prop) → Hp3 → Prop} (h : te σ H fun x H1 => ilk x H1 R) : il3 te σ H R := h
theorem g_ilR {R : List D → (Hp3 → Prop) → Hp3 → Prop} (ha : H a = some (.lst ds)) (h : R ds (fun H' => H' a = some (.lst ds)) H) : ilk (.ref a) H R := by simp only [ilk, ha]; exact h
theorem g_ilF {R : List D → (Hp3 → Prop) → Hp3 → Prop} (h : R ds (fun _ => True) H) : ilk (.fl ds) H R := h
theorem g_it {R : List D → (Hp3 → Prop) → Hp3 → Prop} (h : te σ H fun x H1 => itk x H1 R) : it3 te σ H R := h
theorem g_itT {R : List D → (Hp3 → Prop) → Hp3 → Prop} (h : R ds (fun _ => True) H) : itk (.tup ds) H R := h
theorem g_wh (P : St3 → Hp3 → Prop) (μ : St3 → Hp3 → Nat) (h0 : P σ H) (turn : ∀ σ H, P σ H → cA σ H fun b H1 => if b = true then t { D0 with nx := fun σ' H' => P σ' H' ∧ μ σ' H' < μ σ H, ct := fun σ' H' => P σ' H' ∧ μ σ' H' < μ σ H, bk := D0.nx } σ H1 else D0.nx σ H1) : wh3 cA t D0 σ H := ⟨P, μ, h0, turn⟩
/-! methods -/
def mtk (r : D → List D → Hp3 → VK3 → Prop) (t : TA3) (σ : St3) (x : D) (H1 : Hp3) (Q : VK3) : Prop := match x with
  | .ref a => (match H1 a with
    | some (.lst _) => t σ H1 fun xs H2 => r x xs H2 Q
    | _ => False)
  | _ => False
theorem g_m3 {r : D → List D → Hp3 → VK3 → Prop} (h : te σ H fun x H1 => mtk r tr σ x H1 Q) : m3 r te tr σ H Q := h
theorem g_mtk {r : D → List D → Hp3 → VK3 → Prop} (ha : H a = some (.lst ds)) (h : tr σ H fun xs H2 => r (.ref a) xs H2 Q) : mtk r tr σ (.ref a) H Q := by simp only [mtk, ha]; exact h
theorem g_ins (ha : H a = some (.lst ds)) (hi : 0 ≤ i ∧ i ≤ ds.length) (hl : ds.length < 1000) (q : Q .non (upd3 H a (.lst (ds.take i.toNat ++ y :: ds.drop i.toNat)))) : r3ins (.ref a) [.int i, y] H Q := by
  simp only [r3ins, ha]; exact ⟨⟨hi, hl⟩, q⟩
/-! sequences, whatever they are -/
theorem g_isi {U T : String} (h : tyH H x = some U) (hT : T ∈ kinds) (q : Q (.bl (isT U T)) H) : r3isi [x, .ty T] H Q := by
  simp only [r3isi, h]; exact ⟨hT, q⟩
theorem atI_map {α : Type} {xs : List α} {f : α → D} {k : Int} (h0 : 0 ≤ k) (h1 : k.toNat < xs.length) : atI (xs.map f) k = some (f (xs[k.toNat]'h1)) := by
  have hl : k < ((xs.map f).length : Int) := by rw [List.length_map]; omega
  unfold atI ixN
  rw [if_pos h0, if_pos hl, Option.bind_some, List.getElem?_map, List.getElem?_eq_getElem h1]
  rfl
/-! comprehensions -/
def Cp (g : TG3) (tc : TT3) (te : TE3) (σ0 : St3) (ds : List D) (keep : Hp3 → Prop) (H1 : Hp3) (Q : VK3) : Prop := (∀ H2 : Hp3, Sub3 H1 H2 → keep H2) ∧ ds.length ≤ 1000 ∧ ∃ rs : List (Option D), rs.length = ds.length ∧
  (∀ (i : Nat) (d : D), ds[i]? = some d → ∀ H2 : Hp3, Sub3 H1 H2 → g d σ0 H2 fun σ2 H4 => tc σ2 H4 fun b H5 =>
    if b = true then te σ2 H5 fun v H6 => Sub3 H2 H6 ∧ rs[i]? = some (some v) else Sub3 H2 H5 ∧ rs[i]? = some none) ∧
  ∀ p, H1 p = none → Q (.ref p) (upd3 H1 p (.lst (rs.filterMap id)))
def blk3 (own : List Str) (fv : FV) (σ : St3) : St3 := own.map (fun _ => none) ++ fv.map fun p => (σ[p.1]?).join
theorem g_cp {wi : TI3} {g : TG3} {own : List Str} {fv : FV} (h : wi σ H fun ds keep H1 => Cp g cA te (blk3 own fv σ) ds keep H1 Q) : cp3 wi g cA te own fv σ H Q := h
theorem g_yes (q : QB true H) : yes3 σ H QB := q
/-- each item E a gives F a, where the test T a says yes -/
theorem Cp.filt {α : Type} {g : TG3} {keep : Hp3 → Prop} {σ0 : St3} {as : List α} {E : α → D} (F : α → D) (T : α → Bool) (hk : ∀ H2 : Hp3, Sub3 H H2 → keep H2) (hl : as.length ≤ 1000)
    (hel : ∀ (i : Nat) a, as[i]? = some a → ∀ (R1 : VK3) (R0 : Hp3 → Prop) (H2 : Hp3), Sub3 H H2 → (T a = true → ∀ H6, Sub3 H2 H6 → R1 (F a) H6) → (T a = false → ∀ H6, Sub3 H2 H6 → R0 H6) → g (E a) σ0 H2 fun σ2 H4 => cA σ2 H4 fun b H5 => if b = true then te σ2 H5 R1 else R0 H5)
    (fin : ∀ p, H p = none → Q (.ref p) (upd3 H p (.lst ((as.filter T).map F)))) : Cp g cA te σ0 (as.map E) keep H Q := by
  refine ⟨hk, by rw [List.length_map]; exact hl, as.map (fun a => if T a = true then some (F a) else none), by simp, fun i d hd H2 hs => ?_, fun p hp => ?_⟩
  · rw [List.getElem?_map] at hd
    cases e : as[i]? with
    | none => rw [e] at hd; cases hd
    | some a =>
      rw [e] at hd
      cases hd
      have er : (as.map fun a => if T a = true then some (F a) else none)[i]? = some (if T a = true then some (F a) else none) := by rw [List.getElem?_map, e]; rfl
      exact hel i a e _ _ H2 hs (fun ht H6 h6 => ⟨h6, by rw [er, if_pos ht]⟩) fun ht H6 h6 => ⟨h6, by rw [er, if_neg (by rw [ht]; exact Bool.false_ne_true)]⟩
  · have e : ∀ as : List α, (as.map fun a => if T a = true then some (F a) else none).filterMap id = (as.filter T).map F := by
      intro as
      induction as with
      | nil => rfl
      | cons a as ih =>
        rw [List.map_cons, List.filterMap_cons]
        cases h : T a with
        | true => rw [List.filter_cons_of_pos h, List.map_cons, ← ih]; rfl
        | false => rw [List.filter_cons_of_neg (by simp [h]), ← ih]; rfl
    rw [e]
    exact fin p hp
/-- no test -/
theorem Cp.map {α : Type} {g : TG3} {keep : Hp3 → Prop} {σ0 : St3} {as : List α} {E : α → D} (F : α → D) (hk : ∀ H2 : Hp3, Sub3 H H2 → keep H2) (hl : as.length ≤ 1000)
    (hel : ∀ (i : Nat) a, as[i]? = some a → ∀ (R : VK3) (H2 : Hp3), Sub3 H H2 → (∀ H6, Sub3 H2 H6 → R (F a) H6) → g (E a) σ0 H2 fun σ2 H4 => te σ2 H4 R)
    (fin : ∀ p, H p = none → Q (.ref p) (upd3 H p (.lst (as.map F)))) : Cp g yes3 te σ0 (as.map E) keep H Q := by
  refine ⟨hk, by rw [List.length_map]; exact hl, as.map (fun a => some (F a)), by simp, fun i d hd H2 hs => ?_, fun p hp => ?_⟩
  · rw [List.getElem?_map] at hd
    cases e : as[i]? with
    | none => rw [e] at hd; cases hd
    | some a =>
      rw [e] at hd
      cases hd
      have er : (as.map fun a => some (F a))[i]? = some (some (F a)) := by rw [List.getElem?_map, e]; rfl
      exact hel i a e _ H2 hs fun H6 h6 => ⟨h6, er⟩
  · have e : ∀ as : List α, (as.map fun a => some (F a)).filterMap id = as.map F := by
      intro as
      induction as with
      | nil => rfl
      | cons a as ih => rw [List.map_cons, List.filterMap_cons, List.map_cons, ← ih]; rfl
    rw [e]
    exact fin p hp
/-- the same, where pairs come out -/
theorem Cp.mapP {α : Type} {g : TG3} {keep : Hp3 → Prop} {σ0 : St3} {as : List α} {E : α → D} (f : α → Pt) (hk : ∀ H2 : Hp3, Sub3 H H2 → keep H2) (hl : as.length ≤ 1000)
    (hel : ∀ (i : Nat) a, as[i]? = some a → ∀ (R : VK3) (H2 : Hp3), Sub3 H H2 → (∀ H6, Sub3 H2 H6 → R (.tup [.int (f a).1, .int (f a).2]) H6) → g (E a) σ0 H2 fun σ2 H4 => te σ2 H4 R)
    (fin : ∀ p, H p = none → Q (.ref p) (upd3 H p (.lst ((as.map f).map prP)))) : Cp g yes3 te σ0 (as.map E) keep H Q :=
  Cp.map (fun a => prP (f a)) hk hl hel fun p hp => by have := fin p hp; rw [List.map_map] at this; exact this
theorem g_so {sp : Sp3} (h : te σ H fun x H1 => sok sp x H1 Q) : so3 sp te σ H Q := h
theorem g_eqB {k l : Bool} (q : Q (.bl (k == l)) H) : r3eq (.bl k) (.bl l) H Q := by
  simp only [r3eq, pyH, pyN, PyData.eqv]; exact q
/-! tests decided -/
theorem ifD {p A B : Prop} [Decidable p] (h1 : p → A) (h2 : ¬ p → B) : if decide p = true then A else B := by
  by_cases h : p
  · rw [if_pos (decide_eq_true h)]; exact h1 h
  · rw [if_neg (by simpa using h)]; exact h2 h
theorem ifN {p A B : Prop} [Decidable p] (h1 : ¬ p → A) (h2 : p → B) : if (!decide p) = true then A else B := by
  by_cases h : p
  · rw [if_neg (by simpa using h)]; exact h2 h
  · rw [if_pos (by simpa using h)]; exact h1 h
theorem ifY {c : Bool} {A B : Prop} (hc : c = true) (h : A) : if c = true then A else B := by rw [if_pos hc]; exact h
theorem ifX {c : Bool} {A B : Prop} (hc : c = false) (h : B) : if c = true then A else B := by subst hc; exact h
end
end L3

namespace L3
open PySem PySem.W PyProof.Rows
/-! ### the tree of questions that a sort of fewer than 64 items asks: what comes out is in order -/
section
variable {cmp : Nat → Nat → (Bool → Shared → Prop) → Shared → Prop} {n : Nat} {z : Nat → Int} {s : Shared}
def ak (z : Nat → Int) (p : Array Nat) (t : Nat) : Int := z (p.getD t 0)
theorem getD_of {p : Array Nat} {t : Nat} : p.getD t 0 = (p[t]?).getD 0 := by simp [Array.getD_eq_getD_getElem?]
def Pm (n : Nat) (p : Array Nat) : Prop := p.Perm (List.range n).toArray
theorem Pm.size {p : Array Nat} (h : Pm n p) : p.size = n := by have := Array.Perm.size_eq h; simpa using this
theorem Pm.lt {p : Array Nat} (h : Pm n p) {t : Nat} (ht : t < n) : p.getD t 0 < n := by
  have hs : t < p.size := by rw [h.size]; exact ht
  have e : p.getD t 0 = p[t] := by rw [getD_of, Array.getElem?_eq_getElem hs]; rfl
  have hm : p[t] ∈ p := Array.getElem_mem hs
  have := (Array.Perm.mem_iff h).mp hm
  rw [e]
  simpa using this
theorem Pm.rev {p : Array Nat} (h : Pm n p) (i j : Nat) : Pm n (kas_rev p i j) := (mirror_perm p i j _).trans h
def CmpOk (cmp : Nat → Nat → (Bool → Shared → Prop) → Shared → Prop) (n : Nat) (z : Nat → Int) (s : Shared) : Prop := ∀ i j C, i < n → j < n → C (decide (z i < z j)) s → cmp i j C s
def SorP (z : Nat → Int) (p : Array Nat) (k : Nat) : Prop := ∀ i j, i ≤ j → j < k → ak z p i ≤ ak z p j
end
end L3

namespace L3
open PySem PySem.Spec PySem.W PyProof.Rows
/-! ### sorted(.., key = f): fewer than 64 items, keys made one after another -/
section
variable {prog : Program} {w : World} {A : Around} {E : Value → Shared → Prop} {s : Shared}
/-- what the caller shows of a sort: J: what holds when the keys ks are made and lie at kS; D: the list that is sorted -/
structure SortJ (prog : Program) (w : World) (A : Around) (s : Shared) (vs : List Value) (f : Value) (z : Nat → Int) (Q : Value → Shared → Prop) (D kS : Addr) (J : Nat → List Value → Nat → Shared → Prop) : Prop where
  start : ∀ e1 h', (∀ b o, s.heap.get? b = some o → h'.get? b = some o) → h'.get? D = some (seqObj "list" #[] e1) → h'.get? kS = some (seqObj "list" #[] 0) → J e1 [] 0 { s with heap := h' }
  stand : ∀ e1 ks e s1, J e1 ks e s1 → s1.heap.get? kS = some (seqObj "list" (List.toArray ks) e) ∧ s1.heap.get? D = some (seqObj "list" #[] e1)
  turn : ∀ e1 ks e s1 x, J e1 ks e s1 → vs[ks.length]? = some x → wpAny (model prog w) A (call f [x]) (fun k s2 => s2.heap.get? kS = some (seqObj "list" (List.toArray ks) e) ∧
    ∀ c h', Heap.SameBut kS s2.heap h' → h'.get? kS = some (seqObj "list" (List.toArray (ks ++ [k])) c) → J e1 (ks ++ [k]) c { s2 with heap := h' }) (fun _ _ => False) s1
  order : ∀ e1 ks e s1, J e1 ks e s1 → ks.length = vs.length → 2 ≤ vs.length → wpAny (model prog w) A (keyKind' (List.toArray ks)) (fun κ s2 => s2 = s1 ∧ CmpOk (kas_ask prog w A κ ks) vs.length z s1) (fun _ _ => False) s1
  fin : ∀ e1 ks e s1 (p : Array Nat), J e1 ks e s1 → ks.length = vs.length → Pm vs.length p → SorP z p vs.length → ∀ h' c, (∀ b o, b ≠ kS → b ≠ D → s1.heap.get? b = some o → h'.get? b = some o) →
    h'.get? D = some (seqObj "list" (List.toArray (p.toList.map fun i => vs.getD i Value.none)) c) → Q (.ref D) { s1 with heap := h' }
end
end L3

namespace L3
open PySem PySem.Spec PyProof.Rows L2
/-! ### sorted(some, key = rank): pairs in the order of their second number first -/
/-- the context one builtin and one method deeper; no exception leaves -/
def Cx.in2 (X : Cx) : Cx := { X with A := X.A.in1.in1, xe := fun _ _ => False }
theorem Ok.in2 {X : Cx} (k : X.Ok) : (Cx.in2 X).Ok := ⟨k.mod, k.kind, k.glob, k.blt, k.above, k.inj, k.has, k.cab, k.hd, k.frames, k.stk, k.exf, k.bs, k.bsz, k.noex, k.exfs, k.funs, k.frf⟩
section
variable {X : Cx} {pins : List (Addr × Obj)} {σ : St} {H H' : Hp} {s : Shared}
theorem Inv.in2 (I : Inv X pins σ H s) : Inv (Cx.in2 X) pins σ H s := ⟨Ok.in2 I.ok, I.os, I.bare, I.base, I.loc, I.cell, I.free, I.freeC, I.pin, I.hok, I.len⟩
end
/-- the keys made so far -/
def Keys (K : PySem.W.Frag) (H : Hp) : List Pt → List Value → Prop := Paired fun c k => ∃ a, k = .ref a ∧ SqT K H a [.int c.2, .int c.1]
theorem Keys.mono {K : PySem.W.Frag} {H H' : Hp} (t : TK H H') {cs : List Pt} {ks : List Value} (h : Keys K H cs ks) : Keys K H' cs ks := Paired.mapP h fun _ _ ⟨a, e, q⟩ => ⟨a, e, t.sqT q⟩
theorem Paired.snoc {α β : Type} {R : α → β → Prop} : ∀ {as : List α} {bs : List β} {a : α} {b : β}, Paired R as bs → R a b → Paired R (as ++ [a]) (bs ++ [b])
  | _, _, _, _, .nil, h => .cons h .nil
  | _, _, _, _, .cons r t, h => .cons r (Paired.snoc t h)
theorem Paired.at {α β : Type} {R : α → β → Prop} : ∀ {as : List α} {bs : List β} {i : Nat} {a : α}, Paired R as bs → as[i]? = some a → ∃ b, bs[i]? = some b ∧ R a b
  | _, _, _, _, .nil, e => by simp at e
  | _, _, 0, _, .cons r _, e => by simp at e; subst e; exact ⟨_, rfl, r⟩
  | _, _, i + 1, a, .cons _ t, e => by
    obtain ⟨b, h1, h2⟩ := Paired.at (i := i) (a := a) t (by simpa using e)
    exact ⟨b, by simpa using h1, h2⟩
section
variable {X : Cx}
end
end L3

namespace L3
open PySem PySem.Spec PyProof.Rows L2
section
variable {X : Cx} {pins : List (Addr × Obj)} {σ : St} {H : Hp} {s : Shared}
end
end L3

namespace L3
open PySem PySem.Spec PyProof.Rows L2
/-! ### dicts keyed by tuples of ints and texts -/
def keysOf : List D → Option (List Key)
  | [] => some []
  | .int i :: ds => (keysOf ds).map (Sum.inl i :: ·)
  | .str x :: ds => (keysOf ds).map (Sum.inr x :: ·)
  | _ :: _ => none
abbrev Tab := List (List Key × D)
def dlook (kvs : Tab) (k : List Key) : Option D := (kvs.find? fun kv => decide (kv.1 = k)).map (·.2)
def dput (kvs : Tab) (k : List Key) (d : D) : Tab := if (kvs.any fun kv => decide (kv.1 = k)) = true then kvs.map (fun kv => if kv.1 = k then (kv.1, d) else kv) else kvs ++ [(k, d)]
abbrev TR (K : PySem.W.Frag) (H : Hp) : Tab → List (List Key × V) → Prop := Paired (fun (p : List Key × D) (q : List Key × V) => p.1 = q.1 ∧ Rep K H p.2 q.2)
theorem TR.look {K : PySem.W.Frag} {H : Hp} {k : List Key} : ∀ {kvs : Tab} {ks : List (List Key × V)}, TR K H kvs ks → (valV ks k).isSome = (dlook kvs k).isSome ∧ ∀ d, dlook kvs k = some d → ∃ v, valV ks k = some v ∧ Rep K H d v
  | _, _, .nil => ⟨rfl, fun _ h => nomatch h⟩
  | _, _, .cons (a := p) (b := q) r t => by
    have ih := TR.look (k := k) t
    by_cases e : p.1 = k
    · have e' : q.1 = k := r.1.symm.trans e
      have l1 : ∀ rest : Tab, dlook (p :: rest) k = some p.2 := fun rest => by unfold dlook; rw [List.find?_cons_of_pos (by simpa using e)]; rfl
      rw [valV_pos e', l1]
      exact ⟨rfl, fun d h => ⟨_, rfl, by cases h; exact r.2⟩⟩
    · have e' : ¬ q.1 = k := fun z => e (r.1.trans z)
      have l1 : ∀ rest : Tab, dlook (p :: rest) k = dlook rest k := fun rest => by unfold dlook; rw [List.find?_cons_of_neg (by simpa using e)]
      rw [valV_neg e', l1]
      exact ih
theorem TR.any {K : PySem.W.Frag} {H : Hp} {k : List Key} : ∀ {kvs : Tab} {ks : List (List Key × V)}, TR K H kvs ks → (kvs.any fun kv => decide (kv.1 = k)) = ks.any fun kv => decide (kv.1 = k)
  | _, _, .nil => rfl
  | _, _, .cons r t => by rw [List.any_cons, List.any_cons, TR.any t, r.1]
theorem TR.repl {K : PySem.W.Frag} {H : Hp} {k : List Key} {d : D} {v : V} (rd : Rep K H d v) : ∀ {kvs : Tab} {ks : List (List Key × V)}, TR K H kvs ks → TR K H (kvs.map fun kv => if kv.1 = k then (kv.1, d) else kv) (ks.map fun kv => if kv.1 = k then (kv.1, v) else kv)
  | _, _, .nil => .nil
  | _, _, .cons (a := p) (b := q) r t => by
    refine .cons ?_ (TR.repl rd t)
    dsimp only
    by_cases e : p.1 = k
    · rw [if_pos e, if_pos (r.1.symm.trans e)]; exact ⟨r.1, rd⟩
    · rw [if_neg e, if_neg (fun z => e (r.1.trans z))]; exact r
theorem TR.put {K : PySem.W.Frag} {H : Hp} {k : List Key} {d : D} {v : V} {kvs : Tab} {ks : List (List Key × V)} (r : TR K H kvs ks) (rd : Rep K H d v) : TR K H (dput kvs k d) (putK ks k v) := by
  unfold dput putK
  rw [← TR.any r]
  split
  · exact TR.repl rd r
  · exact Paired.snoc r ⟨rfl, rd⟩
theorem TR.mono {K : PySem.W.Frag} {H H' : Hp} (t : TK H H') {kvs : Tab} {ks : List (List Key × V)} (r : TR K H kvs ks) : TR K H' kvs ks := Paired.mapP r fun _ _ z => ⟨z.1, z.2.mono t⟩
/-! in, not in -/
section
variable {X : Cx}
/-! d[k] = v -/
def dpk (v x y : D) (σ : St3) (H : Hp3) (R : St3 → Hp3 → Prop) : Prop := match x, y with
  | .ref a, .tup ds => (match keysOf ds, H a with
    | some k, some (.dic kvs) => kvs.length < 1000 ∧ R σ (upd3 H a (.dic (dput kvs k v)))
    | _, _ => False)
  | _, _ => False
def dp3 (td ty tv : TE3) : TS3 := fun D0 σ H => tv σ H fun v H1 => td σ H1 fun x H2 => ty σ H2 fun y H3 => dpk v x y σ H3 D0.nx
/-! {} -/
def dn3 : TE3 := fun _ H Q => ∀ p, H p = none → Q (.ref p) (upd3 H p (.dic []))
/-! {k: v} -/
def ddk (p : Addr) (x y : D) (H : Hp3) (Q : VK3) : Prop := match x with
  | .tup ds => H p = some (.dic []) ∧ (match keysOf ds with
    | some k => Q (.ref p) (upd3 H p (.dic [(k, y)]))
    | none => False)
  | _ => False
def dd3 (tk tv : TE3) : TE3 := fun σ H Q => ∀ p, H p = none → tk σ (upd3 H p (.dic [])) fun x H1 => tv σ H1 fun y H2 => ddk p x y H2 Q
end
/-! an exception that is never raised -/
end L3

namespace L3
open PySem PySem.Spec PyProof.Rows L2
/-! ### dict(pairs): a list of pairs, the first of each a tuple of ints and texts -/
section
variable {prog : Program} {w : World} {A : Around} {E : Value → Shared → Prop} {s : Shared}
end
/-- the items of the list: pairs of a key's tuple and a value -/
def PairsIn (H : Hp) : List V → List (List Key × V) → Prop := Paired fun v p => ∃ t b, v = .ref t ∧ H t = some (.tup [.ref b, p.2]) ∧ H b = some (.tup (p.1.map kV))
theorem PairsIn.mono {H H' : Hp} (t : ∀ b xs, H b = some (.tup xs) → H' b = some (.tup xs)) {vs : List V} {ps : List (List Key × V)} (h : PairsIn H vs ps) : PairsIn H' vs ps := Paired.mapP h fun _ _ ⟨a, b, e, h1, h2⟩ => ⟨a, b, e, t _ _ h1, t _ _ h2⟩
section
variable {X : Cx} {pins : List (Addr × Obj)} {σ : St}
end
/-! over data -/
end L3
namespace L3
open PySem PySem.Spec PyProof.Rows L2
end L3

namespace L3
open PySem L2
/-! ### steps: dicts of pairs -/
section
variable {σ : St3} {H : Hp3} {Q : VK3} {D0 : Ends3} {a p : Addr} {x y : D} {ta tb te : TE3} {p1 p2 : Int} {ps : List Pt}
theorem g_dp (h : te σ H fun v H1 => ta σ H1 fun x H2 => tb σ H2 fun y H3 => dpk v x y σ H3 D0.nx) : dp3 ta tb te D0 σ H := h
theorem g_dn (h : ∀ p, H p = none → Q (.ref p) (upd3 H p (.dic []))) : dn3 σ H Q := h
theorem g_dd (h : ∀ p, H p = none → ta σ (upd3 H p (.dic [])) fun x H1 => tb σ H1 fun y H2 => ddk p x y H2 Q) : dd3 ta tb σ H Q := h
end
end L3

/-! ### all, any, sum of a list -/
namespace L3
open PySem PySem.Spec PyProof.Rows L2
def boolsOf : List D → Option (List Bool)
  | [] => some []
  | .bl b :: ds => (boolsOf ds).map (b :: ·)
  | _ :: _ => none
theorem boolsOf_map (bs : List Bool) : boolsOf (bs.map D.bl) = some bs := by
  induction bs with
  | nil => rfl
  | cons b bs ih => rw [List.map_cons, boolsOf, ih]; rfl
theorem boolsOf_inv : ∀ {ds : List D} {bs : List Bool}, boolsOf ds = some bs → ds = bs.map D.bl
  | [], bs, h => by cases h; rfl
  | d :: ds, bs, h => by
    cases d with
    | bl b =>
      rw [boolsOf, Option.map_eq_some_iff] at h
      obtain ⟨cs, hc, rfl⟩ := h
      rw [boolsOf_inv hc]; rfl
    | _ => cases h
/-- of a list of truths -/
def r3tr (f : List Bool → Bool) : List D → Hp3 → VK3 → Prop := fun ds H Q => match ds with
  | [.ref a] => (match H a with
    | some (.lst xs) => (match boolsOf xs with
      | some bs => Q (.bl (f bs)) H
      | none => False)
    | _ => False)
  | _ => False
abbrev r3all : List D → Hp3 → VK3 → Prop := r3tr fun bs => bs.all id
theorem g_tr {f : List Bool → Bool} {bs : List Bool} {a : Addr} {H : Hp3} {Q : VK3} (ha : H a = some (.lst (bs.map D.bl))) (q : Q (.bl (f bs)) H) : r3tr f [.ref a] H Q := by
  simp only [r3tr, ha, boolsOf_map]; exact q
/-! ### a text's letters -/
def lets (z : Str) : List D := z.cps.toList.map fun c => D.str ⟨#[c]⟩
def iz3 (te : TE3) : TI3 := fun σ H R => te σ H fun x H1 => match x with
  | .str z => R (lets z) (fun _ => True) H1
  | _ => False
def izk (x : D) (H : Hp3) (R : List D → (Hp3 → Prop) → Hp3 → Prop) : Prop := match x with
  | .str z => R (lets z) (fun _ => True) H
  | _ => False
theorem g_iz {te : TE3} {σ : St3} {H : Hp3} {R : List D → (Hp3 → Prop) → Hp3 → Prop} (h : te σ H fun x H1 => izk x H1 R) : iz3 te σ H R := h
theorem g_izS {z : Str} {H : Hp3} {R : List D → (Hp3 → Prop) → Hp3 → Prop} (h : R (lets z) (fun _ => True) H) : izk (.str z) H R := h
/-! ### texts' methods -/
/-- a method of a text -/
def mz3 (r : D → List D → Hp3 → VK3 → Prop) (to : TE3) (t : TA3) : TE3 := fun σ H Q => to σ H fun x H1 => (match x with
  | .str _ => t σ H1 fun xs H2 => r x xs H2 Q
  | _ => False)
def mzk (r : D → List D → Hp3 → VK3 → Prop) (t : TA3) (σ : St3) (x : D) (H1 : Hp3) (Q : VK3) : Prop := match x with
  | .str _ => t σ H1 fun xs H2 => r x xs H2 Q
  | _ => False
theorem g_mz {r : D → List D → Hp3 → VK3 → Prop} {to : TE3} {t : TA3} {σ : St3} {H : Hp3} {Q : VK3} (h : to σ H fun x H1 => mzk r t σ x H1 Q) : mz3 r to t σ H Q := h
theorem g_mzk {r : D → List D → Hp3 → VK3 → Prop} {t : TA3} {σ : St3} {z : Str} {H : Hp3} {Q : VK3} (h : t σ H fun xs H2 => r (.str z) xs H2 Q) : mzk r t σ (.str z) H Q := h
end L3

namespace L3
open PySem PySem.Spec PyProof.Rows PySem.Calls L2
section
variable {X : Cx}
theorem bools_at : ∀ {bs : List Bool} {us : List Value} {i : Nat} {v : Value}, Vals (bs.map V.bl) us → us[i]? = some v → ∃ b, bs[i]? = some b ∧ v = .bool b
  | [], _, i, v, .nil, e => by simp at e
  | b :: bs, _, 0, v, .cons r t, e => by
    simp at e; subst e
    exact ⟨b, rfl, r⟩
  | b :: bs, _, i + 1, v, .cons r t, e => by
    obtain ⟨c, h1, h2⟩ := bools_at (bs := bs) (i := i) t (by simpa using e)
    exact ⟨c, by simpa using h1, h2⟩
theorem RepL.bools_inv {K : PySem.W.Frag} {H : Hp} : ∀ {bs : List Bool} {vs : List V}, RepL K H (bs.map D.bl) vs → vs = bs.map V.bl
  | [], _, .nil => rfl
  | _ :: bs, _, .cons (.bl _) t => by rw [List.map_cons, RepL.bools_inv (bs := bs) t]
theorem iter_kept {h h' : Heap} {o : Obj} (hk : ∀ b x, b ∉ [h.objs.size] → (h.push o).get? b = some x → h'.get? b = some x) (b : Addr) (x : Obj) (e : h.get? b = some x) : h'.get? b = some x := by
  refine hk b x (fun hm => ?_) (Heap.get?_push_of_some _ e)
  rw [List.mem_singleton.mp hm] at e
  exact absurd (Heap.lt_size e) (Nat.lt_irrefl _)
theorem call_allL (hc : X.calm = true) : CallR X (.builtin "all") (fun xs H Q => ∃ (a : Addr) (bs : List Bool), xs = [.ref a] ∧ SqL X.K H a (bs.map V.bl) ∧ Q (.bl (bs.all id)) H) := by
  intro pins s σ H xs us Q I r h
  obtain ⟨a, bs, rfl, hq, q⟩ := h
  obtain ⟨u, rfl, ru⟩ := vals1 r
  cases ru
  obtain ⟨its, rv, pl, _⟩ := I.list hq
  have hl := pl.isList
  have hlt : a < s.heap.objs.size := by obtain ⟨_, e, _⟩ := hl; exact Heap.lt_size e
  have hlen : its.length = bs.length := by have := rv.length; rw [List.length_map] at this; exact this.symm
  refine call_all_walk (wpAny_pyIter_list hl ?_)
  refine ⟨s.heap.objs.size, [s.heap.objs.size, a], [s.heap.objs.size], its.toArray.size, _, _, fun i => (bs[i]?).getD true, rfl,
    Walks.list (A := X.A.in1) (I.ok.hd hc) _ a (Nat.ne_of_lt hlt) its.toArray, ⟨⟨_, Heap.get?_push_size _ rfl, rfl, rfl⟩, hl.push _⟩, ?_, ?_⟩
  · intro i v s' Q' E' hP hQ
    obtain ⟨b, e, rfl⟩ := bools_at rv (i := i) (v := v) (by simpa using hP)
    dsimp only at hQ
    rw [e, Option.getD_some] at hQ
    exact wpAny_truthy_bool hQ
  · intro h' tk hk
    rw [List.size_toArray, hlen, LSm.range_all]
    exact ⟨.bl (bs.all id), H, I.kept (iter_kept hk), rfl, q⟩
theorem lift_tr {id : String} {f : List Bool → Bool} (h : CallR X (.builtin id) (fun xs H Q => ∃ (a : Addr) (bs : List Bool), xs = [.ref a] ∧ SqL X.K H a (bs.map V.bl) ∧ Q (.bl (f bs)) H)) : CallR X (.builtin id) (liftC X.K (r3tr f)) := by
  intro pins s σ H xs us Q I rs t
  obtain ⟨ds, H3, Q3, hr, rd, t, k⟩ := t
  cases rd with
  | nil => exact t.elim
  | cons r1 r2 =>
    cases r2 with
    | cons _ _ => cases r1 <;> exact t.elim
    | nil =>
      cases r1 with
      | ref a =>
        simp only [r3tr] at t
        split at t
        · rename_i ds ha
          split at t
          · rename_i bs e
            obtain ⟨vs, ga, ra⟩ := hr a _ ha
            have z := boolsOf_inv e
            subst z
            have z := ra.bools_inv
            subst z
            exact h pins s σ H _ us Q I rs ⟨a, bs, rfl, SqL.of ga, k _ _ _ _ TK.refl hr (.bl _) t⟩
          · exact t.elim
        · exact t.elim
      | _ => exact t.elim
theorem cb3_all (hc : X.calm = true) : CallR X (.builtin "all") (liftC X.K r3all) := lift_tr (call_allL hc)
end
end L3

/-! ### a text, walked -/
namespace L3
open PySem PySem.Spec PyProof.Rows L2
section
variable {X : Cx}
end
end L3

/-! ### texts' methods: join, index -/
namespace L3
open PySem PySem.Spec PyProof.Rows L2
section
variable {X : Cx}
end
end L3

/-! ### slices of texts -/
namespace L3
open PySem PySem.Spec PyProof.Rows L2
section
variable {X : Cx}
end
end L3

/-! ### numbers of some bits; tuples of numbers -/
namespace L3
open PySem L2
def Bt (n : Nat) (i : Int) : Prop := i.natAbs < 2 ^ n
section
variable {m n : Nat} {i j : Int}
theorem Bt.mono (h : Bt m i) (l : m ≤ n) : Bt n i := Nat.lt_of_lt_of_le h (Nat.pow_le_pow_right (by decide) l)
theorem Bt.of_le (h : Bt m j) (l : i.natAbs ≤ j.natAbs) : Bt m i := Nat.lt_of_le_of_lt l h
theorem Bt.add (h : Bt m i) (g : Bt n j) : Bt (max m n + 1) (i + j) := by
  have h' := Bt.mono h (Nat.le_max_left m n)
  have g' := Bt.mono g (Nat.le_max_right m n)
  unfold Bt at *
  rw [Nat.pow_succ]
  generalize 2 ^ max m n = p at *
  omega
theorem Bt.neg (h : Bt m i) : Bt m (-i) := by unfold Bt at *; rw [Int.natAbs_neg]; exact h
theorem Bt.sub (h : Bt m i) (g : Bt n j) : Bt (max m n + 1) (i - j) := by rw [Int.sub_eq_add_neg]; exact h.add g.neg
theorem Bt.mul (h : Bt m i) (g : Bt n j) : Bt (m + n) (i * j) := by
  unfold Bt at *
  rw [Int.natAbs_mul, Nat.pow_add]
  exact Nat.mul_lt_mul'' h g
theorem Bt.div (h : Bt m i) : Bt m (i / j) := h.of_le (Int.natAbs_ediv_le_natAbs i j)
theorem Bt.mod (g : Bt n j) (hj : 0 < j) : Bt n (i % j) := by
  refine g.of_le ?_
  have h1 := Int.emod_nonneg i (Int.ne_of_gt hj)
  have h2 := Int.emod_lt_of_pos i hj
  omega
theorem Bt.lit (h : i.natAbs < 2 ^ n) : Bt n i := h
theorem Bt.rng (h1 : -(2 ^ n : Nat) < i) (h2 : i < (2 ^ n : Nat)) : Bt n i := by unfold Bt; generalize 2 ^ n = p at *; omega
end
def CMulW (i j : Int) : Prop := CMul i j ∨ ∃ m n, Bt m i ∧ Bt n j ∧ m + n ≤ 134217728
theorem CMulW.of {m n : Nat} {i j : Int} (h : Bt m i) (g : Bt n j) (l : m + n ≤ 134217728) : CMulW i j := .inr ⟨m, n, h, g, l⟩
def CDivW (_ j : Int) : Prop := 0 < j ∧ Bt 8999 j
def CDivNW (_ j : Int) : Prop := j ≠ 0 ∧ Bt 8999 j
def i3mulW : R3 := rI3 CMulW fun i j => .int (i * j)
def i3divW : R3 := rI3 CDivW fun i j => .int (i / j)
def i3divN : R3 := rI3 CDivNW fun i j => .int (i.fdiv j)
def i3modN : R3 := rI3 (fun _ j => j ≠ 0) fun i j => .int (i.fmod j)
section
variable {σ : St3} {H : Hp3} {Q : VK3} {i j : Int} {d x y : D} {ds es : List D}
theorem g_mulW (c : CMulW i j) (q : Q (.int (i * j)) H) : i3mulW (.int i) (.int j) H Q := ⟨c, q⟩
theorem g_divW (c : CDivW i j) (q : Q (.int (i / j)) H) : i3divW (.int i) (.int j) H Q := ⟨c, q⟩
theorem g_divN (c : CDivNW i j) (q : Q (.int (i.fdiv j)) H) : i3divN (.int i) (.int j) H Q := ⟨c, q⟩
theorem g_modN (c : j ≠ 0) (q : Q (.int (i.fmod j)) H) : i3modN (.int i) (.int j) H Q := ⟨c, q⟩
def r3abs : List D → Hp3 → VK3 → Prop := fun ds H Q => match ds with
  | [.int i] => Q (.int (if i < 0 then -i else i)) H
  | _ => False
theorem g_abs (q : Q (.int (if i < 0 then -i else i)) H) : r3abs [.int i] H Q := q
theorem py_ints : ∀ ns : List Int, mapO (pyN 4) (ns.map D.int) = some (ns.map PyData.int)
  | [] => rfl
  | n :: ns => by
    have e : pyN 4 (D.int n) = some (PyData.int n) := rfl
    simp only [List.map_cons, mapO, e, py_ints ns]
theorem py_tupI (H : Hp3) (ns : List Int) : pyH H (.tup (ns.map D.int)) = some (.tuple (ns.map PyData.int)) := by
  have e : pyH H (.tup (ns.map D.int)) = (mapO (pyN 4) (ns.map D.int)).map .tuple := rfl
  rw [e, py_ints]; rfl
theorem eqvAll_ints : ∀ ms ns : List Int, PyData.eqvAll (ms.map PyData.int) (ns.map PyData.int) = decide (ms = ns)
  | [], [] => by simp [PyData.eqvAll]
  | [], _ :: _ => by simp [PyData.eqvAll]
  | _ :: _, [] => by simp [PyData.eqvAll]
  | m :: ms, n :: ns => by
    have e : PyData.eqv (.int m) (.int n) = decide (m = n) := by simp only [PyData.eqv]; rfl
    simp only [List.map_cons, PyData.eqvAll, eqvAll_ints ms ns, e, List.cons.injEq, Bool.decide_and]
theorem g_eqTL {ms ns : List Int} (q : Q (.bl (decide (ms = ns))) H) : r3eq (.tup (ms.map D.int)) (.tup (ns.map D.int)) H Q := by
  simp only [r3eq, py_tupI, PyData.eqv, eqvAll_ints]; exact q
theorem g_neTL {ms ns : List Int} (q : Q (.bl (!decide (ms = ns))) H) : r3ne (.tup (ms.map D.int)) (.tup (ns.map D.int)) H Q := by
  simp only [r3ne, py_tupI, PyData.eqv, eqvAll_ints]; exact q
theorem g_eqT3 {a b c a' b' c' : Int} (q : Q (.bl (decide ([a, b, c] = [a', b', c']))) H) : r3eq (.tup [.int a, .int b, .int c]) (.tup [.int a', .int b', .int c']) H Q := g_eqTL (ms := [a, b, c]) (ns := [a', b', c']) q
theorem g_neT3 {a b c a' b' c' : Int} (q : Q (.bl (!decide ([a, b, c] = [a', b', c']))) H) : r3ne (.tup [.int a, .int b, .int c]) (.tup [.int a', .int b', .int c']) H Q := g_neTL (ms := [a, b, c]) (ns := [a', b', c']) q
theorem Cp.rng {g : TG3} {σ0 : St3} {te : TE3} {lo : Int} {n : Nat} (F : Nat → D) (hl : n ≤ 1000)
    (hel : ∀ i : Nat, i < n → ∀ (R : VK3) (H2 : Hp3), Sub3 H H2 → (∀ H6, Sub3 H2 H6 → R (F i) H6) → g (.int (lo + (i : Int))) σ0 H2 fun σ2 H4 => te σ2 H4 R)
    (fin : ∀ p, H p = none → Q (.ref p) (upd3 H p (.lst ((List.range n).map F)))) : Cp g yes3 te σ0 (rng lo n) (fun _ => True) H Q :=
  Cp.map F (fun _ _ => trivial) (by rw [List.length_range]; exact hl) (fun _ a ha => hel a (List.mem_range.mp (List.mem_of_getElem? ha))) fin
end
/-! zip -/
def zipD (ds es : List D) : List D := List.zipWith (fun x y => D.tup [x, y]) ds es
def zpk (x y : D) (H : Hp3) (R : List D → (Hp3 → Prop) → Hp3 → Prop) : Prop := match x, y with
  | .ref a, .ref b => (match H a, H b with
    | some (.lst ds), some (.lst es) => R (zipD ds es) (fun H' => H' a = some (.lst ds) ∧ H' b = some (.lst es)) H
    | _, _ => False)
  | _, _ => False
def izp (ta tb : TE3) : TI3 := fun σ H R => ta σ H fun x H1 => tb σ H1 fun y H2 => zpk x y H2 R
section
variable {σ : St3} {H : Hp3} {a b : Addr} {ds es : List D}
theorem g_izp {ta tb : TE3} {R : List D → (Hp3 → Prop) → Hp3 → Prop} (h : ta σ H fun x H1 => tb σ H1 fun y H2 => zpk x y H2 R) : izp ta tb σ H R := h
/-! list(reversed(..)) of a list -/
def rvk (x : D) (H : Hp3) (Q : VK3) : Prop := match x with
  | .ref a => (match H a with
    | some (.lst ds) => ∀ p, H p = none → Q (.ref p) (upd3 H p (.lst ds.reverse))
    | _ => False)
  | _ => False
def rvl3 (te : TE3) : TE3 := fun σ H Q => te σ H fun x H1 => rvk x H1 Q
theorem g_rvl {te : TE3} {Q : VK3} (h : te σ H fun x H1 => rvk x H1 Q) : rvl3 te σ H Q := h
theorem g_rvk {Q : VK3} (ha : H a = some (.lst ds)) (h : ∀ p, H p = none → Q (.ref p) (upd3 H p (.lst ds.reverse))) : rvk (.ref a) H Q := by simp only [rvk, ha]; exact h
/-! a, b = x, y -/
def pr3 (i j : Nat) (ta tb : TE3) : TS3 := fun D0 σ H => ta σ H fun x H1 => tb σ H1 fun y H2 => D0.nx ((σ.set i (some x)).set j (some y)) H2
theorem g_pr {i j : Nat} {ta tb : TE3} {D0 : Ends3} (h : ta σ H fun x H1 => tb σ H1 fun y H2 => D0.nx ((σ.set i (some x)).set j (some y)) H2) : pr3 i j ta tb D0 σ H := h
/-! the module's dicts -/
def kdk (kvs : List (Str × D)) (x : D) (H : Hp3) (Q : VK3) : Prop := match x with
  | .str z => (match kvs.lookup z with
    | some d => Q d H
    | none => False)
  | _ => False
def kd3 (kvs : List (Str × D)) (te : TE3) : TE3 := fun σ H Q => te σ H fun x H1 => kdk kvs x H1 Q
theorem g_kd {kvs : List (Str × D)} {te : TE3} {Q : VK3} (h : te σ H fun x H1 => kdk kvs x H1 Q) : kd3 kvs te σ H Q := h
theorem g_ixK {ds : List D} {i : Int} {d : D} {Q : VK3} (h : atI ds i = some d) (q : Q d H) : r3ix (.ktup ds) (.int i) H Q := by simp only [r3ix, h]; exact q
/-! reversed(text) -/
def irk (x : D) (H : Hp3) (R : List D → (Hp3 → Prop) → Hp3 → Prop) : Prop := match x with
  | .str z => z.length ≤ sizeLine ∧ R (lets z).reverse (fun _ => True) H
  | _ => False
def irv (te : TE3) : TI3 := fun σ H R => te σ H fun x H1 => irk x H1 R
theorem g_irv {te : TE3} {R : List D → (Hp3 → Prop) → Hp3 → Prop} (h : te σ H fun x H1 => irk x H1 R) : irv te σ H R := h
def ikd (kvs : List (Str × D)) : TI3 := fun _ H R => R (kvs.map fun p => D.str p.1) (fun _ => True) H
theorem g_ikd {kvs : List (Str × D)} {R : List D → (Hp3 → Prop) → Hp3 → Prop} (h : R (kvs.map fun p => D.str p.1) (fun _ => True) H) : ikd kvs σ H R := h
/-! name op= e -/
def au3 (k : Nat) (r : R3) (te : TE3) : TS3 := fun D0 σ H => match σ[k]? with
  | some (some x) => te σ H fun y H1 => r x y H1 fun z H2 => D0.nx (σ.set k (some z)) H2
  | _ => False
theorem g_au {k : Nat} {r : R3} {te : TE3} {D0 : Ends3} {x : D} (hx : σ[k]? = some (some x)) (h : te σ H fun y H1 => r x y H1 fun z H2 => D0.nx (σ.set k (some z)) H2) : au3 k r te D0 σ H := by
  simp only [au3, hx]; exact h
/-- ints or texts -/
def r3iadd : R3 := fun x y H Q => match x, y with
  | .int i, .int j => Q (.int (i + j)) H
  | .str i, .str j => i.length + j.length ≤ sizeLine ∧ Q (.str (i ++ j)) H
  | _, _ => False
def i3isub : R3 := rI30 fun i j => .int (i - j)
theorem g_iadd {i j : Int} {Q : VK3} (q : Q (.int (i + j)) H) : r3iadd (.int i) (.int j) H Q := q
theorem g_isub {i j : Int} {Q : VK3} (q : Q (.int (i - j)) H) : i3isub (.int i) (.int j) H Q := q
/-- max of two -/
def r3max2 : List D → Hp3 → VK3 → Prop := fun ds H Q => match ds with
  | [.int i, .int j] => Q (.int (if j > i then j else i)) H
  | _ => False
theorem g_max2 {i j : Int} {Q : VK3} (q : Q (.int (if j > i then j else i)) H) : r3max2 [.int i, .int j] H Q := q
/-! zip of a list and a text -/
def asc (z : Str) : Prop := z.cps.all (· < 128) = true
def ztk (x y : D) (H : Hp3) (R : List D → (Hp3 → Prop) → Hp3 → Prop) : Prop := match x, y with
  | .ref a, .str z => (match H a with
    | some (.lst ds) => asc z ∧ R (zipD ds (lets z)) (fun H' => H' a = some (.lst ds)) H
    | _ => False)
  | _, _ => False
def tzk (x y : D) (H : Hp3) (R : List D → (Hp3 → Prop) → Hp3 → Prop) : Prop := match x, y with
  | .str z, .ref a => (match H a with
    | some (.lst ds) => asc z ∧ R (zipD (lets z) ds) (fun H' => H' a = some (.lst ds)) H
    | _ => False)
  | _, _ => False
def izt (ta tb : TE3) : TI3 := fun σ H R => ta σ H fun x H1 => tb σ H1 fun y H2 => ztk x y H2 R
def itz (ta tb : TE3) : TI3 := fun σ H R => ta σ H fun x H1 => tb σ H1 fun y H2 => tzk x y H2 R
theorem g_izt {ta tb : TE3} {R : List D → (Hp3 → Prop) → Hp3 → Prop} (h : ta σ H fun x H1 => tb σ H1 fun y H2 => ztk x y H2 R) : izt ta tb σ H R := h
theorem g_itz {ta tb : TE3} {R : List D → (Hp3 → Prop) → Hp3 → Prop} (h : ta σ H fun x H1 => tb σ H1 fun y H2 => tzk x y H2 R) : itz ta tb σ H R := h
/-! text * number -/
end
end L3

namespace L3
open PySem PySem.Spec PyProof.Rows L2
section
variable {X : Cx}
theorem CMulW.ok {i j : Int} (h : CMulW i j) : IntMulOk i j := by
  rcases h with h | ⟨m, n, h1, h2, h3⟩
  · exact h.ok
  · exact IntMulOk.of_le (intBits_le_iff.mpr h1) (intBits_le_iff.mpr h2) h3
theorem Bt.log {j : Int} (h : Bt 8999 j) : j.natAbs.log2 < 9000 := by
  by_cases h0 : j.natAbs = 0
  · rw [h0]; decide +kernel
  · have := (Nat.log2_lt h0).mpr h
    omega
theorem op3_mulW : OpR X (binaryOp .Mult) (lift2 X.K i3mulW) := op3_of (opI fun _ _ _ _ _ _ _ hc q => mul_int q (CMulW.ok hc)) fun _ _ _ => .int _
theorem op3_fdivW : OpR X (binaryOp .FloorDiv) (lift2 X.K i3divW) := op3_of (opI fun i j _ _ _ _ _ hc q => by
  have h1 : (0 : Int) < j := hc.1
  exact floordiv_int (by omega) (by rw [Int.fdiv_eq_ediv_of_nonneg i (by omega)]; exact q) (.inl (PyProof.noPylong_of_log2 (Bt.log hc.2)))) fun _ _ _ => .int _
theorem op3_fdivN : OpR X (binaryOp .FloorDiv) (lift2 X.K i3divN) := op3_of (opI fun i j _ _ _ _ _ hc q => floordiv_int hc.1 q (.inl (PyProof.noPylong_of_log2 (Bt.log hc.2)))) fun _ _ _ => .int _
theorem op3_modN : OpR X (binaryOp .Mod) (lift2 X.K i3modN) := op3_of op_modN fun _ _ _ => .int _
theorem cb3_abs : CallR X (.builtin "abs") (liftC X.K r3abs) := by
  intro pins s σ H xs us Q I rs t
  obtain ⟨ds, H3, Q3, hr, rd, t, k⟩ := t
  cases rd with
  | nil => exact t.elim
  | cons r1 r2 =>
    cases r2 with
    | cons _ _ => cases r1 <;> exact t.elim
    | nil =>
      cases r1 with
      | int i => exact call_abs pins s σ H _ us Q I rs ⟨i, rfl, k _ _ _ _ TK.refl hr (.int _) t⟩
      | _ => exact t.elim
end
end L3

/-! ### zip of two lists -/
namespace L3
open PySem PySem.Spec PyProof.Rows L2
section
variable {X : Cx} {pins : List (Addr × Obj)} {σ : St} {H : Hp} {s : Shared} {h' : Heap}
end
section
variable {X : Cx} {tg : Expr}
theorem RepL.zip {K : PySem.W.Frag} {H : Hp} {ds es : List D} {xs ys : List V} {i : Nat} {x y : V} (r : RepL K H ds xs) (r' : RepL K H es ys) (hx : xs[i]? = some x) (hy : ys[i]? = some y) : ∃ d e, (zipD ds es)[i]? = some (.tup [d, e]) ∧ Rep K H d x ∧ Rep K H e y := by
  obtain ⟨d, hd, rd⟩ := r.getV hx
  obtain ⟨e, he, re⟩ := r'.getV hy
  refine ⟨d, e, ?_, rd, re⟩
  unfold zipD
  rw [List.getElem?_zipWith, hd, he]
end
end L3

/-! ### list(reversed(..)) of a list -/
namespace L3
open PySem PySem.Spec PyProof.Rows L2
section
variable {prog : Program} {w : World} {A : Around} {E : Value → Shared → Prop} {s : Shared}
end
theorem Vals.snoc1 : ∀ {xs : List V} {us : List Value} {x : V} {u : Value}, Vals xs us → RelV x u → Vals (xs ++ [x]) (us ++ [u])
  | _, _, _, _, .nil, r => .cons r .nil
  | _, _, _, _, .cons h t, r => .cons h (Vals.snoc1 t r)
theorem Vals.rev : ∀ {xs : List V} {us : List Value}, Vals xs us → Vals xs.reverse us.reverse
  | _, _, .nil => .nil
  | _, _, .cons h t => by rw [List.reverse_cons, List.reverse_cons]; exact Vals.snoc1 (Vals.rev t) h
theorem RepL.rev {K : PySem.W.Frag} {H : Hp} : ∀ {ds : List D} {vs : List V}, RepL K H ds vs → RepL K H ds.reverse vs.reverse
  | _, _, .nil => .nil
  | _, _, .cons h t => by rw [List.reverse_cons, List.reverse_cons]; exact RepL.snoc (RepL.rev t) h
section
variable {X : Cx}
theorem s3_par {i j : Nat} {x y : Str} {a b : Expr} {ta tb : TE3} {px py pt pos : Pos} {kt k2 pt2} (hc : X.calm = true) (hN : X.N.Nodup) (ha : PE3 X a ta) (hb : PE3 X b tb) (hij : i ≠ j := by decide) (hi : X.N[i]? = some x := by rfl) (hj : X.N[j]? = some y := by rfl)
    (hx : X.env.scope.names.lookup x = some .local := by rfl) (hy : X.env.scope.names.lookup y = some .local := by rfl)
    (hw : swappedStores [.Tuple [.Name x px, .Name y py] kt pt] (.Tuple [a, b] k2 pt2) X.env = pure (some [x, y]) := by rfl) (hs : swapsWithSole [.Tuple [.Name x px, .Name y py] kt pt] (.Tuple [a, b] k2 pt2) pos.line X.env = pure false := by rfl)
    (hs1 : starEach [a, b] X.env = (false, eval a X.env) :: starEach [b] X.env := by rfl) (hs2 : starEach [b] X.env = (false, eval b X.env) :: starEach [] X.env := by rfl) :
    PS3 X (.Assign [.Tuple [.Name x px, .Name y py] kt pt] (.Tuple [a, b] k2 pt2) pos) (pr3 i j ta tb) :=
  ps_imp (ps_par hc hN hi hj hij hx hy (a3_cons ha (a3_cons hb a3_nil hs2) hs1) hw hs) fun D0 σ H ⟨σ3, H3, D3, sr, hr, t, k⟩ => by
    refine ⟨σ3, H3, fun ds H1 => (match ds with | [x, y] => D3.nx ((σ3.set i (some x)).set j (some y)) H1 | _ => False), sr, hr, t, fun ds vs H3a Ha tka hra rs qa => ?_⟩
    cases rs with
    | nil => exact qa.elim
    | cons r1 r2 =>
      cases r2 with
      | nil => exact qa.elim
      | cons r2 r3 =>
        cases r3 with
        | cons _ _ => exact qa.elim
        | nil => exact ⟨_, _, rfl, k.nx _ _ _ _ tka (((sr.mono tka).set i r1).set j r2) hra qa⟩
end
end L3

/-! ### the module's own dicts, keyed by texts -/
namespace L3
open PySem PySem.Spec PyProof.Rows L2
/-- a thing of the module's -/
inductive RepK (K : PySem.W.Frag) : D → Value → Prop
  | str (x : Str) (t : Tok) : RepK K (.str x) (.str x t)
  | int (i : Int) (t : Tok) : RepK K (.int i) (.int i t)
  | tupI {a : Addr} {ns : List Int} : KTp K a (ns.map V.int) → RepK K (.ktup (ns.map D.int)) (.ref a)
theorem RepK.rep {K : PySem.W.Frag} {H : Hp} {d : D} {v : Value} (r : RepK K d v) : ∃ y, RelV y v ∧ Rep K H d y := by
  cases r with
  | str x t => exact ⟨.str x, ⟨t, rfl⟩, .str x⟩
  | int i t => exact ⟨.int i, ⟨t, rfl⟩, .int i⟩
  | tupI h => exact ⟨.ref _, rfl, .ktup h (RepL.ints _)⟩
inductive EntR (w : World) (K : PySem.W.Frag) : List DictEntry → List (Str × D) → Prop
  | nil : EntR w K [] []
  | cons {k : Str} {d : D} {t : Tok} {v : Value} {es : List DictEntry} {kvs : List (Str × D)} : RepK K d v → EntR w K es kvs → EntR w K (⟨hashStr w k, .str k t, v⟩ :: es) ((k, d) :: kvs)
structure DC (K : PySem.W.Frag) (w : World) (a : Addr) (kvs : List (Str × D)) : Prop where
  ob : ∃ o es ep, K.lookup a = some o ∧ o.ExactDict ∧ o.data = .dict es ep ∧ EntR w K es.toList kvs
  nd : (kvs.map (·.1)).Nodup
  ns : (a == sysModules) = false
/-- as the library has it -/
theorem EntR.pairs {P : Program} {w : World} {K : PySem.W.Frag} : ∀ {es : List DictEntry} {kvs : List (Str × D)}, EntR w K es kvs → ∃ vs : List (Key × Value), Pairs (mixKind P w) es vs ∧ vs.map (·.1) = kvs.map (fun p => (Sum.inr p.1 : Key)) ∧
    (∀ e ∈ es, ∃ k, (mixKind P w).is k e.key = true ∧ e.hash = (mixKind P w).hash k) ∧ (∀ z d, kvs.lookup z = some d → ∃ v, valueAt vs (.inr z) = some v ∧ RepK K d v) ∧ ∀ z, kvs.lookup z = none → valueAt vs (.inr z) = none
  | _, _, .nil => ⟨[], .nil, rfl, by simp, by simp, fun z _ => rfl⟩
  | _, _, .cons (k := k) (d := d) (t := t) (v := v) r h => by
    obtain ⟨vs, h1, h2, h3, h4, h5⟩ := EntR.pairs (P := P) h
    refine ⟨(.inr k, v) :: vs, .cons (mixKind_str P w k t) rfl h1, by rw [List.map_cons, h2]; rfl, ?_, ?_, ?_⟩
    · intro e he
      rcases List.mem_cons.mp he with rfl | he
      · exact ⟨.inr k, mixKind_str P w k t, rfl⟩
      · exact h3 e he
    · intro z dz hz
      by_cases e : z = k
      · subst e
        rw [List.lookup_cons, beq_self_eq_true] at hz
        cases hz
        exact ⟨v, by unfold valueAt; rw [List.find?_cons_of_pos (by simp)]; rfl, r⟩
      · have hb : (z == k) = false := beq_eq_false_iff_ne.mpr e
        rw [List.lookup_cons, hb] at hz
        obtain ⟨v', q1, q2⟩ := h4 z dz hz
        refine ⟨v', ?_, q2⟩
        unfold valueAt at q1 ⊢
        rw [List.find?_cons_of_neg (by simp; exact fun q => e q.symm)]
        exact q1
    · intro z hz
      have e : z ≠ k := by
        rintro rfl
        rw [List.lookup_cons, beq_self_eq_true] at hz
        cases hz
      have hb : (z == k) = false := beq_eq_false_iff_ne.mpr e
      rw [List.lookup_cons, hb] at hz
      have q1 := h5 z hz
      unfold valueAt at q1 ⊢
      rw [List.find?_cons_of_neg (by simp; exact fun q => e q.symm)]
      exact q1
theorem DC.dict {K : PySem.W.Frag} {P : Program} {w : World} {a : Addr} {kvs : List (Str × D)} {h : Heap} (c : DC K w a kvs) (hk : K.In h) : ∃ vs : List (Key × Value), h.DictOf (mixKind P w) a vs ∧ (∀ z d, kvs.lookup z = some d → ∃ v, valueAt vs (.inr z) = some v ∧ RepK K d v) ∧ ∀ z, kvs.lookup z = none → valueAt vs (.inr z) = none := by
  obtain ⟨o, es, ep, h1, h2, h3, h4⟩ := c.ob
  obtain ⟨vs, p1, p2, p3, p4, p5⟩ := EntR.pairs (P := P) h4
  refine ⟨vs, ⟨o, es, ep, hk a o h1, h2, h3, fun e he => p3 e (by simpa using he), p1, ?_⟩, p4, p5⟩
  rw [p2]
  have := c.nd
  rw [List.nodup_iff_pairwise_ne, List.pairwise_map] at this ⊢
  exact this.imp fun h q => h (Sum.inr.inj q)
section
variable {X : Cx}
end
section
variable {X : Cx} {elt iter : Expr} {ifs : List Expr} {scope : Scope} {pos px px' py pt spos : Pos} {x x' y : Str} {fv : FV} {wi : TI3} {tc : TT3} {te : TE3} {kk : Nat}
end
end L3

namespace L3
open PySem PySem.Spec PyProof.Rows L2
section
variable {prog : Program} {w : World} {A : Around} {E : Value → Shared → Prop} {s : Shared} {x : Str} {t : Tok} {it : Addr}
end
section
variable {X : Cx} {tg : Expr}
end
end L3

/-! ### the module's dicts, walked -/
namespace L3
open PySem PySem.Spec PyProof.Rows L2
theorem DC.at {K : PySem.W.Frag} {P : Program} {w : World} {a : Addr} {kvs : List (Str × D)} (c : DC K w a kvs) : ∃ (vs : List (Key × Value)) (ep : Nat), (∀ h : Heap, K.In h → h.DictAt (mixKind P w) a vs ep) ∧ vs.map (·.1) = kvs.map (fun p => (Sum.inr p.1 : Key)) := by
  obtain ⟨o, es, ep, h1, h2, h3, h4⟩ := c.ob
  obtain ⟨vs, p1, p2, p3, p4, p5⟩ := EntR.pairs (P := P) h4
  refine ⟨vs, ep, fun h hk => ⟨o, es, hk a o h1, h2, h3, fun e he => p3 e (by simpa using he), p1, ?_⟩, p2⟩
  rw [p2]
  have := c.nd
  rw [List.nodup_iff_pairwise_ne, List.pairwise_map] at this ⊢
  exact this.imp fun h q => h (Sum.inr.inj q)
section
variable {X : Cx} {tg : Expr}
end
end L3

/-! ### name op= e; the script + a list; max of two -/
namespace L3
open PySem PySem.Spec PyProof.Rows L2
section
variable {X : Cx}
end
end L3

/-! ### zip of a list and a text, of a text and a list -/
namespace L3
open PySem PySem.Spec PyProof.Rows L2
/-- what is drawn from: addresses apart -/
structure ZAp (z TI TO i1 i2 : Addr) (f1 f2 : List Addr) : Prop where
  TIz : TI ≠ z
  TOz : TO ≠ z
  i1z : i1 ≠ z
  i2z : i2 ≠ z
  TITO : TI ≠ TO
  TIi1 : TI ≠ i1
  TIi2 : TI ≠ i2
  TOi1 : TO ≠ i1
  TOi2 : TO ≠ i2
  i12 : i1 ≠ i2
  a1 : z ∉ f1 ∧ TO ∉ f1 ∧ i2 ∉ f1
  a2 : z ∉ f2 ∧ TO ∉ f2 ∧ i1 ∉ f2
section
variable {prog : Program} {w : World} {A : Around} {E : Value → Shared → Prop} {s : Shared}
variable {z TI TO i1 i2 : Addr} {f1 f2 : List Addr} {n1 n2 k : Nat} {P1 P2 : Nat → Value → Prop} {S1 S2 : Nat → Heap → Prop} {a b : Value}
end
end L3

namespace L3
open PySem PySem.Spec PyProof.Rows L2
section
variable {X : Cx} {tg : Expr}
end

section
variable {X : Cx} {tg : Expr}
end

section
variable {X : Cx}
end

section
variable {X : Cx}
end
end L3

/-! ### text * number -/
namespace L3
open PySem PySem.Spec PyProof.Rows L2
section
variable {X : Cx}
end
end L3

namespace L3
open PySem PySem.Spec PyProof.Rows L2
/-! ### pure parts: instances -/
def putF3 (f : Str) (y : D) : List (Str × D) → List (Str × D)
  | [] => [(f, y)]
  | (g, x) :: r => if g = f then (g, y) :: r else (g, x) :: putF3 f y r
def r3fld (cs : List Str) (f : Str) (x : D) (H : Hp3) (Q : VK3) : Prop := match x with
  | .ref a => (match H a with
    | some (.ins c fs) => c ∈ cs ∧ (match fs.lookup f with
      | some d => Q d H
      | none => False)
    | _ => False)
  | _ => False
def fd3 (cs : List Str) (f : Str) (ta : TE3) : TE3 := fun σ H Q => ta σ H fun x H1 => r3fld cs f x H1 Q
def r3sf (cs : List Str) (f : Str) (y x : D) (H : Hp3) (R : Hp3 → Prop) : Prop := match x with
  | .ref a => (match H a with
    | some (.ins c fs) => (c ∈ cs ∧ fs.length < 1000) ∧ R (upd3 H a (.ins c (putF3 f y fs)))
    | _ => False)
  | _ => False
def sf3 (cs : List Str) (f : Str) (ta tv : TE3) : TS3 := fun D σ H => tv σ H fun y H1 => ta σ H1 fun x H2 => r3sf cs f y x H2 (D.nx σ)
def r3meth (ms : List (Str × Sp3)) (m : Str) (x : D) (H : Hp3) (R : Sp3 → Prop) : Prop := match x with
  | .ref a => (match H a with
    | some (.ins c fs) => fs.lookup m = none ∧ (match ms.lookup c with
      | some sp => R sp
      | none => False)
    | _ => False)
  | _ => False
def me3 (ms : List (Str × Sp3)) (m : Str) (ta : TE3) (t : TA3) : TE3 := fun σ H Q => ta σ H fun x H1 => r3meth ms m x H1 fun sp => t σ H1 fun ds H2 => sp (x :: ds) H2 Q
def mk3 (c : Str) (sp : Sp3) (t : TA3) : TE3 := fun σ H Q => t σ H fun ds H1 => ∀ x, H1 x = none → sp (.ref x :: ds) (upd3 H1 x (.ins c [])) fun v H2 => v = .non ∧ Q (.ref x) H2
section
variable {H : Hp3} {Q : VK3} {σ : St3} {a : Addr} {c f m : Str} {cs : List Str} {fs : List (Str × D)} {d y : D} {ta tv : TE3} {t : TA3} {sp : Sp3} {ms : List (Str × Sp3)}
theorem g_fd (h : ta σ H fun x H1 => r3fld cs f x H1 Q) : fd3 cs f ta σ H Q := h
theorem g_fld (h : H a = some (.ins c fs)) (hc : c ∈ cs) (hl : fs.lookup f = some d) (q : Q d H) : r3fld cs f (.ref a) H Q := by
  simp only [r3fld, h, hl]; exact ⟨hc, q⟩
theorem g_sfa {E : Ends3} (h : tv σ H fun y H1 => ta σ H1 fun x H2 => r3sf cs f y x H2 (E.nx σ)) : sf3 cs f ta tv E σ H := h
theorem g_sf {R : Hp3 → Prop} (h : H a = some (.ins c fs)) (hc : c ∈ cs) (hl : fs.length < 1000) (q : R (upd3 H a (.ins c (putF3 f y fs)))) : r3sf cs f y (.ref a) H R := by
  simp only [r3sf, h]; exact ⟨⟨hc, hl⟩, q⟩
theorem g_me (h : ta σ H fun x H1 => r3meth ms m x H1 fun sp => t σ H1 fun ds H2 => sp (x :: ds) H2 Q) : me3 ms m ta t σ H Q := h
theorem g_meth {R : Sp3 → Prop} (h : H a = some (.ins c fs)) (hl : fs.lookup m = none) (hs : ms.lookup c = some sp) (q : R sp) : r3meth ms m (.ref a) H R := by
  simp only [r3meth, h, hs]; exact ⟨hl, q⟩
theorem g_mk (h : t σ H fun ds H1 => ∀ x, H1 x = none → sp (.ref x :: ds) (upd3 H1 x (.ins c [])) fun v H2 => v = .non ∧ Q (.ref x) H2) : mk3 c sp t σ H Q := h
end
/-! enumerate(list) -/
def enk (x : D) (H : Hp3) (R : List D → (Hp3 → Prop) → Hp3 → Prop) : Prop := match x with
  | .ref a => (match H a with
    | some (.lst ds) => R (zipD (rng 0 ds.length) ds) (fun H' => H' a = some (.lst ds)) H
    | _ => False)
  | _ => False
def ien (te : TE3) : TI3 := fun σ H R => te σ H fun x H1 => enk x H1 R
theorem g_ien {te : TE3} {σ : St3} {H : Hp3} {R : List D → (Hp3 → Prop) → Hp3 → Prop} (h : te σ H fun x H1 => enk x H1 R) : ien te σ H R := h
theorem g_enk {H : Hp3} {a : Addr} {ds : List D} {R : List D → (Hp3 → Prop) → Hp3 → Prop} (h : H a = some (.lst ds)) (q : R (zipD (rng 0 ds.length) ds) (fun H' => H' a = some (.lst ds)) H) : enk (.ref a) H R := by
  simp only [enk, h]; exact q
/-! int(bool) -/
def r3int : List D → Hp3 → VK3 → Prop := fun ds H Q => match ds with
  | [.bl b] => Q (.int (if b then 1 else 0)) H
  | [.int i] => Q (.int i) H
  | _ => False
theorem g_intB {b : Bool} {H : Hp3} {Q : VK3} (q : Q (.int (if b then 1 else 0)) H) : r3int [.bl b] H Q := q
/-! exceptions, by their class's name -/
abbrev EK3 := Str → Hp3 → Prop
abbrev SpE := List D → Hp3 → VK3 → EK3 → Prop
def noE : EK3 := fun _ _ => False
def cbE (sp : SpE) (t : TA3) : EK3 → TE3 := fun E σ H Q => t σ H fun ds H1 => sp ds H1 Q E
def rz3 (E : EK3) (c : Str) (te : TE3) : TS3 := fun _ σ H => te σ H fun _ H1 => ∃ H2, Sub3 H2 H1 ∧ E c H2
def tr3 (t : EK3 → TE3) (cs : List Str) (th : TS3) : TS3 := fun D σ H => t (fun c H1 => c ∈ cs ∧ th D σ H1) σ H fun _ H1 => D.nx σ H1
section
variable {H : Hp3} {Q : VK3} {σ : St3} {t : TA3} {sp : SpE} {E : EK3} {c : Str} {te : TE3}
theorem g_cbE (h : t σ H fun ds H1 => sp ds H1 Q E) : cbE sp t E σ H Q := h
theorem g_rz {D : Ends3} (h : te σ H fun _ H1 => ∃ H2, Sub3 H2 H1 ∧ E c H2) : rz3 E c te D σ H := h
theorem g_try {D : Ends3} {t : EK3 → TE3} {cs : List Str} {th : TS3} (h : t (fun c H1 => c ∈ cs ∧ th D σ H1) σ H fun _ H1 => D.nx σ H1) : tr3 t cs th D σ H := h
end
/-! isinstance of an exception: by a table of classes; except .. as .. -/
def isxk (tbl : List (Str × Bool)) (x : D) (H : Hp3) (Q : VK3) : Prop := match x with
  | .ref a => (match H a with
    | some (.exc c) => (match tbl.lookup c with
      | some b => Q (.bl b) H
      | none => False)
    | _ => False)
  | _ => False
def isx3 (tbl : List (Str × Bool)) (ta : TE3) : TE3 := fun σ H Q => ta σ H fun x H1 => isxk tbl x H1 Q
def sxE (t : EK3 → TE3) : EK3 → TS3 := fun E D σ H => t E σ H fun _ H1 => D.nx σ H1
def sxS (i : Nat) (t : EK3 → TE3) : EK3 → TS3 := fun E D σ H => t E σ H fun v H1 => D.nx (σ.set i (some v)) H1
def gone (i : Nat) (D : Ends3) : Ends3 := { nx := fun σ' H' => D.nx (σ'.set i none) H', rt := D.rt, bk := fun σ' H' => D.bk (σ'.set i none) H', ct := fun σ' H' => D.ct (σ'.set i none) H' }
def trA3 (t : EK3 → TS3) (cs : List Str) (i : Nat) (th : TS3) : TS3 := fun D σ H => t (fun c H1 => c ∈ cs ∧ ∀ a, H1 a = none → th (gone i D) (σ.set i (some (.ref a))) (upd3 H1 a (.exc c))) D σ H
section
variable {H : Hp3} {Q : VK3} {σ : St3} {a : Addr} {c : Str} {b : Bool} {tbl : List (Str × Bool)} {ta : TE3}
theorem g_isx3 (h : ta σ H fun x H1 => isxk tbl x H1 Q) : isx3 tbl ta σ H Q := h
theorem g_isxk (h : H a = some (.exc c)) (hl : tbl.lookup c = some b) (q : Q (.bl b) H) : isxk tbl (.ref a) H Q := by
  simp only [isxk, h, hl]; exact q
theorem g_trA {D : Ends3} {t : EK3 → TS3} {cs : List Str} {i : Nat} {th : TS3} (h : t (fun c H1 => c ∈ cs ∧ ∀ a, H1 a = none → th (gone i D) (σ.set i (some (.ref a))) (upd3 H1 a (.exc c))) D σ H) : trA3 t cs i th D σ H := h
theorem g_gone {D : Ends3} {i : Nat} (h : D.nx (σ.set i none) H) : (gone i D).nx σ H := h
theorem g_goneR {E : Ends3} {i : Nat} {d : D} (h : E.rt d H) : (gone i E).rt d H := h
theorem g_sxE {D : Ends3} {E : EK3} {t : EK3 → TE3} (h : t E σ H fun _ H1 => D.nx σ H1) : sxE t E D σ H := h
theorem g_sxS {D : Ends3} {E : EK3} {i : Nat} {t : EK3 → TE3} (h : t E σ H fun v H1 => D.nx (σ.set i (some v)) H1) : sxS i t E D σ H := h
end
end L3

namespace L3
open PySem PySem.Spec PyProof.Rows L2
/-! ### instances of the text's classes: fields, methods, making -/
abbrev FsR (K : PySem.W.Frag) (H : Hp) (fs : List (Str × D)) (xs : List (Str × V)) : Prop := Paired (fun (p : Str × D) (q : Str × V) => p.1 = q.1 ∧ Rep K H p.2 q.2) fs xs
section
variable {K : PySem.W.Frag} {H : Hp}
theorem FsR.put {f : Str} {y : D} {v : V} (r : Rep K H y v) : ∀ {fs : List (Str × D)} {xs : List (Str × V)}, FsR K H fs xs → FsR K H (putF3 f y fs) (putF f v xs)
  | _, _, .nil => .cons ⟨rfl, r⟩ .nil
  | (g, d) :: fs, (g', x) :: xs, .cons ⟨e, q⟩ t => by
    have e' : g = g' := e
    subst e'
    unfold putF3 putF
    by_cases h : g = f
    · rw [if_pos h, if_pos h]; exact .cons ⟨rfl, r⟩ t
    · rw [if_neg h, if_neg h]; exact .cons ⟨rfl, q⟩ (FsR.put r t)
theorem FsR.len : ∀ {fs : List (Str × D)} {xs : List (Str × V)}, FsR K H fs xs → fs.length = xs.length
  | _, _, .nil => rfl
  | _ :: _, _ :: _, .cons _ t => by rw [List.length_cons, List.length_cons, FsR.len t]
theorem FsR.look {f : Str} {d : D} : ∀ {fs : List (Str × D)} {xs : List (Str × V)}, FsR K H fs xs → fs.lookup f = some d → ∃ v, xs.lookup f = some v ∧ Rep K H d v
  | _, _, .nil, e => by cases e
  | (g, d') :: fs, (g', x) :: xs, .cons ⟨e, q⟩ t, l => by
    have e' : g = g' := e
    subst e'
    cases hb : f == g with
    | true => simp only [List.lookup, hb] at l ⊢; cases l; exact ⟨x, rfl, q⟩
    | false => simp only [List.lookup, hb] at l ⊢; exact FsR.look t l
theorem FsR.no {f : Str} : ∀ {fs : List (Str × D)} {xs : List (Str × V)}, FsR K H fs xs → fs.lookup f = none → xs.lookup f = none
  | _, _, .nil, _ => rfl
  | (g, d') :: fs, (g', x) :: xs, .cons ⟨e, q⟩ t, l => by
    have e' : g = g' := e
    subst e'
    cases hb : f == g with
    | true => simp only [List.lookup, hb] at l; cases l
    | false => simp only [List.lookup, hb] at l ⊢; exact FsR.no t l
end
/-- the classes cs have no such name: it is a field -/
def FldOk (K : PySem.W.Frag) (cs : List Str) (f : Str) : Prop := ∀ c ∈ cs, ∃ C, PySem.W.nsIn K mainGlobals c = some (some (.ref C)) ∧ Cls K C ∧ NoAttr K C f
theorem FldOk.nil {K : PySem.W.Frag} {f : Str} : FldOk K [] f := fun _ h => absurd h (by simp)
theorem FldOk.cons {K : PySem.W.Frag} {f c : Str} {cs : List Str} {C : Addr} (h1 : PySem.W.nsIn K mainGlobals c = some (some (.ref C))) (h2 : Cls K C) (h3 : NoAttr K C f) (r : FldOk K cs f) : FldOk K (c :: cs) f := fun d h => by
  rcases List.mem_cons.mp h with rfl | h
  · exact ⟨C, h1, h2, h3⟩
  · exact r d h
/-- c.m of the text -/
structure MthOk (P : Program) (w : World) (K : PySem.W.Frag) (mg : Str → Option Value) (base : Heap) (k : Nat) (c m : Str) (ps : List Str) (sp : Sp3) : Prop where
  ex : ∃ C f fd, PySem.W.nsIn K mainGlobals c = some (some (.ref C)) ∧ Cls K C ∧ Meth K C m f ∧ FnOk P w K mg base CX0 k f fd ps (liftF K sp) ∧ Binds K fd ps []
/-- c(..) -/
structure MkOk (P : Program) (w : World) (K : PySem.W.Frag) (mg : Str → Option Value) (base : Heap) (k : Nat) (c : Str) (ps : List Str) (sp : Sp3) : Prop where
  ex : ∃ C f fd, PySem.W.nsIn K mainGlobals c = some (some (.ref C)) ∧ mg c = some (.ref C) ∧ Mk K C f ∧ FnOk P w K mg base CX0 k f fd ps (liftF K sp) ∧ Binds K fd ps []
section
variable {X : Cx} {e o value : Expr} {es : List Expr} {ta tv : TE3} {t : TA3} {cs : List Str} {f m c : Str} {k : Nat} {pos pos' p apos : Pos} {ps : List Str} {sp : Sp3}
/-- every class of the table has the method -/
def MsOk (P : Program) (w : World) (K : PySem.W.Frag) (mg : Str → Option Value) (base : Heap) (k : Nat) (m : Str) (ps : List Str) (ms : List (Str × Sp3)) : Prop := ∀ c sp, ms.lookup c = some sp → MthOk P w K mg base k c m ps sp
theorem MsOk.nil {P : Program} {w : World} {K : PySem.W.Frag} {mg : Str → Option Value} {base : Heap} : MsOk P w K mg base k m ps [] := fun c sp h => by cases h
theorem MsOk.cons {P : Program} {w : World} {K : PySem.W.Frag} {mg : Str → Option Value} {base : Heap} {k' : Nat} {ms : List (Str × Sp3)} (h : MthOk P w K mg base k' c m ps sp) (hk : k' ≤ k) (r : MsOk P w K mg base k m ps ms) : MsOk P w K mg base k m ps ((c, sp) :: ms) := fun d sp' hd => by
  cases hb : d == c with
  | true =>
    simp only [List.lookup, hb] at hd
    cases hd
    obtain rfl : d = c := beq_iff_eq.mp hb
    obtain ⟨C, f, fd, h1, h2, h3, h4, h5⟩ := h.ex
    exact ⟨C, f, fd, h1, h2, h3, h4.mono hk, h5⟩
  | false => simp only [List.lookup, hb] at hd; exact r d sp' hd
end
end L3

namespace L3
open PySem PySem.Spec PyProof.Rows L2
/-! ### exceptions of the text's own classes -/
/-- an exception that flies: its record at a, its traceback's at T -/
def XAt (h : Heap) (a : Addr) (C : Value) (T : Addr) : Prop :=
  ∃ oe vs oT ts a0, h.get? a = some oe ∧ (oe.cls = C ∧ vs[0]? = some a0) ∧ oe.data = .fields vs ∧ vs[1]? = some (.ref T) ∧ T ≠ a ∧ h.get? T = some oT ∧ oT.data = .fields ts ∧ ts[3]? = some .none
/-- what lies behind a call that an exception has left -/
def CXE (P : Program) (w : World) : CXT := fun outer H s E e s' => ∃ a T C H', e = .ref a ∧ s'.os = s.os ∧ AllBare s'.gens ∧ Un (frs outer) [] H H' s.heap s'.heap ∧ HOk P w H' s'.heap ∧
  s.heap.get? a = none ∧ s.heap.get? T = none ∧ H' a = none ∧ H' T = none ∧ XAt s'.heap a (.ref C) T ∧ E (.ref C) none H'
theorem funs_hid {h base B : Heap} : ∀ {l : List Env}, h.FunFrames base l → (∀ b ∈ frs l, B.get? b = none) → h.FunFrames B l
  | [], _, _ => trivial
  | env :: r, ⟨hk, ⟨L, o, hf, _, ho, hd⟩, hr⟩, hb => by
    refine ⟨hk, ⟨L, o, hf, hb L ?_, ho, hd⟩, funs_hid hr fun b q => hb b ?_⟩
    · unfold frs; rw [List.filterMap_cons, hf]; exact List.mem_cons_self
    · unfold frs at q ⊢; rw [List.filterMap_cons, hf]; exact List.mem_cons_of_mem _ q
theorem hok_there {P : Program} {w : World} {H : Hp} {h : Heap} {a : Addr} {o : HO} (x : HOk P w H h) (e : H a = some o) : ∃ u, h.get? a = some u := by
  have y := x a o e
  cases o with
  | lst xs => obtain ⟨_, _, _, _, e⟩ := y; exact ⟨_, e⟩
  | tup xs => obtain ⟨_, _, _, _, e, _⟩ := y; exact ⟨_, e⟩
  | dK kvs => obtain ⟨_, _, _, _, _, _, _, e, _⟩ := y; exact ⟨_, e⟩
  | dT kvs => obtain ⟨_, _, _, _, _, _, _, e, _⟩ := y; exact ⟨_, e⟩
  | set S n => obtain ⟨_, _, _, _, e, _⟩ := y; exact ⟨_, e⟩
  | ins C dx fs => obtain ⟨_, _, _, e, _⟩ := y; exact ⟨_, e⟩
  | own z => obtain ⟨_, e⟩ := y; exact ⟨_, e⟩
  | xd fs => obtain ⟨_, ⟨_, _, _, e, _⟩, _⟩ := y; exact ⟨_, e⟩
  | rng lo hi => obtain ⟨_, _, _, e⟩ := y; exact ⟨_, e⟩
  | frz ob u => obtain ⟨e, _⟩ := y; exact ⟨_, e⟩
  | tbl ps => exact ⟨_, y⟩
  | met f z => exact ⟨_, y⟩
  | ext φ => obtain ⟨_, e, _⟩ := y; exact e
theorem hok_none {P : Program} {w : World} {H : Hp} {h : Heap} {a : Addr} (x : HOk P w H h) (e : h.get? a = none) : H a = none := by
  cases q : H a with
  | none => rfl
  | some o => obtain ⟨u, z⟩ := hok_there x q; rw [e] at z; cases z
section
variable {M : Model} {A : Around} {E : Value → Shared → Prop} {s : Shared} {env : Env} {outer : List Env} {L a T t : Addr} {C : Value} {base : Heap} {Q : Unit → Shared → Prop}
theorem leave_first {dd : Option Addr} {sl : Array (Option Value)} (hfr : A.frames = some (env :: outer)) (hf : env.frame = some L) (hl : s.heap.FunFrames base (env :: outer)) (he : s.heap.get? a = some { cls := C, dict := dd, data := .fields #[.ref t, .none, .none, .none, .bool false, .none], slots := sl })
    (h : ∀ h' T', (∀ b o, b ≠ a → b ∉ frs (env :: outer) → s.heap.get? b = some o → h'.get? b = some o) → (∀ b o, b ∈ frs (env :: outer) → s.heap.get? b = some o → ∃ sl, h'.get? b = some { o with slots := sl }) →
      XAt h' a C T' → s.heap.get? T' = none → Q () { s with heap := h' }) : wpAny M A (leaving env (.ref a)) Q E s := by
  have hid : ∀ b, b ∈ a :: frs (env :: outer) → (PySem.W.hideAll s.heap (a :: frs (env :: outer))).get? b = none := fun b hb => PySem.W.hideAll_none _ hb
  have hl' : s.heap.FunFrames (PySem.W.hideAll s.heap (a :: frs (env :: outer))) (env :: outer) := funs_hid hl fun b hb => hid b (List.mem_cons_of_mem _ hb)
  refine wpAny_leaving_firstW (a0 := .ref t) hfr hl' hf he (fun b o hb => PySem.W.of_hideAll _ hb) (hid a List.mem_cons_self) rfl rfl rfl fun h' ⟨k1, k2, k3, k4⟩ => ?_
  obtain ⟨oe', vs', T', oT', ts', g1, g2, g3, g4, g5, g6, g7, g8, g9⟩ := k3
  refine h h' T' (fun b o n1 n3 q => k1 b o (PySem.W.hideAll_get _ q (by simp only [List.mem_cons, not_or]; exact ⟨n1, n3⟩))) (fun b o hb q => ?_) ⟨oe', vs', oT', ts', .ref t, g1, g2, g3, g4, g6, g7, g8, g9⟩ ?_
  · obtain ⟨_, o', ho', hnf⟩ := hl.mem hb
    rw [q] at ho'; cases ho'
    exact k4 b o q hnf
  · cases q : s.heap.get? T' with
    | none => rfl
    | some o =>
      exfalso
      by_cases hm : T' ∈ a :: frs (env :: outer)
      · rcases List.mem_cons.mp hm with z | hm
        · exact g6 z
        · obtain ⟨_, o', ho', hnf⟩ := k2.mem hm
          rw [g7] at ho'; cases ho'
          exact hnf _ g8
      · rw [PySem.W.hideAll_get _ q hm] at g5; cases g5
end
theorem cxe_of {X : Cx} {pins : List (Addr × Obj)} {σ : St} {H : Hp} {s : Shared} {h' : Heap} {a T T' C : Addr} {E : XK} (I : L2.Inv X pins σ H s) (hex : X.ex = []) (hst : X.stack = X.env :: X.outer) (hfrm : X.env.frame = some X.env.locals)
    (na : X.s₀.heap.get? a = none) (nT : X.s₀.heap.get? T' = none) (n0 : X.s₀.heap.get? T = none) (ua : H a = none) (uT : H T' = none) (u0 : H T = none)
    (k1 : ∀ b o, b ≠ a → b ≠ T → b ∉ frs (X.env :: X.outer) → s.heap.get? b = some o → h'.get? b = some o) (k2 : ∀ b o, b ∈ frs (X.env :: X.outer) → s.heap.get? b = some o → ∃ sl, h'.get? b = some { o with slots := sl })
    (x : XAt h' a (.ref C) T') (hE : E (.ref C) none H) : CXE X.prog X.w X.outer X.H₀ X.s₀ E (.ref a) { s with heap := h' } := by
  have fr1 : ∀ b, b ∈ frs (X.env :: X.outer) → b = X.env.locals ∨ b ∈ X.fs := fun b hb => by
    unfold frs at hb; rw [List.filterMap_cons, hfrm] at hb
    exact List.mem_cons.mp hb
  have fr2 : ∀ b, b ∈ X.fs → b ∈ frs (X.env :: X.outer) := fun b hb => by
    unfold frs; rw [List.filterMap_cons, hfrm]; exact List.mem_cons_of_mem _ hb
  have neL : ∀ b o, X.s₀.heap.get? b = some o → b ≠ X.env.locals := fun b o e => Nat.ne_of_lt (Nat.lt_of_lt_of_le (Heap.lt_size e) I.ok.above)
  have nea : ∀ b o, X.s₀.heap.get? b = some o → b ≠ a ∧ b ≠ T := fun b o e => ⟨fun z => (by rw [z, na] at e; cases e), fun z => (by rw [z, n0] at e; cases e)⟩
  have nex : ∀ b : Addr, b ∉ X.ex := fun b hb => by rw [hex] at hb; cases hb
  have stf : ∀ b ∈ frs (X.env :: X.outer), H b = none := fun b hb => I.stkFree b (by rw [hst]; exact hb)
  refine ⟨a, T', C, H, rfl, I.os, I.bare, ⟨fun b o e n hb _ => ?_, fun b o e n hb _ => ?_, fun b o e n _ => I.base.free b o e n (nex b), fun b o e _ => ?_, I.base.tups, I.base.frzs, I.base.tbls⟩, fun b u e => ?_, na, nT, ua, uT, x, hE⟩
  · refine k1 b o (nea b o e).1 (nea b o e).2 (fun z => ?_) (I.base.keep b o e n hb (nex b))
    rcases fr1 b z with z | z
    · exact neL b o e z
    · exact hb z
  · obtain ⟨sl, e1⟩ := I.base.slot b o e n hb (nex b)
    obtain ⟨sl', e2⟩ := k2 b _ (fr2 b hb) e1
    exact ⟨sl', e2⟩
  · obtain ⟨o', e1⟩ := I.base.there b o e (nex b)
    by_cases hb : b ∈ frs (X.env :: X.outer)
    · obtain ⟨sl, e2⟩ := k2 b o' hb e1
      exact ⟨_, e2⟩
    · exact ⟨o', k1 b o' (nea b o e).1 (nea b o e).2 hb e1⟩
  · refine (I.hok b u e).stay (fun c v hc q => k1 c v ?_ ?_ ?_ q) (fun _ q => q) fun _ _ q => q
    · rintro rfl
      rcases hc with rfl | hc
      · rw [ua] at e; cases e
      · rw [ua] at hc; cases hc
    · rintro rfl
      rcases hc with rfl | hc
      · rw [u0] at e; cases e
      · rw [u0] at hc; cases hc
    · intro hm
      have := stf c hm
      rcases hc with rfl | hc
      · rw [this] at e; cases e
      · rw [this] at hc; cases hc
/-- an exception that is raised here leaves as E wants -/
def Rises (X : Cx) (E : XK) : Prop := ∀ (pins : List (Addr × Obj)) (σ : St) (H : Hp) (s : Shared) (h' : Heap) (e C : Addr) (args : List Value), L2.Inv X pins σ H s → Heap.MadeExcOf s.heap h' e (.ref C) args → E (.ref C) none H → X.xe (.ref e) { s with heap := h' }
section
variable {P : Program} {w : World} {K : PySem.W.Frag} {mg : Str → Option Value} {base : Heap} {N : List Str} {qual : Str} {scope : Scope} {f : Addr} {cd : Value} {A : Around} {outer : List Env} {s0 : Shared} {H0 : Hp} {E : XK}
theorem rises_def : Rises (cxOf (CXE P w) P w K mg base N qual scope f cd A outer s0 H0 E) E := by
  intro pins σ H s h' e C args I hx hE
  obtain ⟨t, he, htn, ht⟩ := hx.there
  have hl := (I.stack).of_keeps (h' := h') fun b o hb _ => ⟨o, hx.keeps b o hb, rfl⟩
  have up : ∀ b o, s0.heap.get? b = some o → ∃ o', s.heap.get? b = some o' := fun b o q => I.base.there b o q (fun z => nomatch z)
  have dn : ∀ b, s.heap.get? b = none → s0.heap.get? b = none := fun b q => by
    cases z : s0.heap.get? b with
    | none => rfl
    | some o => obtain ⟨o', r⟩ := up b o z; rw [q] at r; cases r
  have dn' : ∀ b, h'.get? b = none → s.heap.get? b = none := fun b q => by
    cases z : s.heap.get? b with
    | none => rfl
    | some o => rw [hx.keeps b o z] at q; cases q
  refine leave_first (s := { s with heap := h' }) I.ok.frames rfl hl he fun h'' T' k1 k2 x nT => ?_
  have I' : L2.Inv (cxOf (CXE P w) P w K mg base N qual scope f cd A outer s0 H0 E) pins σ H { s with heap := h' } := I.kept (t' := s.toks) hx.keeps
  exact cxe_of (T := e) I' rfl rfl rfl (dn e hx.new) (dn _ (dn' _ nT)) (dn e hx.new) (hok_none I.hok hx.new) (hok_none I.hok (dn' _ nT)) (hok_none I.hok hx.new) (fun b o n1 _ n3 q => k1 b o n1 n3 q) k2 x hE
end
end L3

namespace L3
open PySem PySem.Spec PyProof.Rows L2
section
variable {M : Model} {A : Around} {E : Value → Shared → Prop} {s : Shared} {env : Env} {outer : List Env} {L a T t : Addr} {C : Value} {base : Heap} {Q : Unit → Shared → Prop}
/-- a try's own look at an exception that comes -/
theorem note_land (hfr : A.frames = some (env :: outer)) (hf : env.frame = some L) (hl : s.heap.FunFrames base (env :: outer)) (x : XAt s.heap a C T)
    (h : ∀ h' T', (∀ b o, b ≠ a → b ≠ T → b ∉ frs (env :: outer) → s.heap.get? b = some o → h'.get? b = some o) → (∀ b o, b ∈ frs (env :: outer) → s.heap.get? b = some o → ∃ sl, h'.get? b = some { o with slots := sl }) →
      XAt h' a C T' → (s.heap.get? T' = none ∨ T' = T) → Q () { s with heap := h' }) : wpAny M A (noteFrame (.ref a) env) (fun _ s2 => wpAny M A (setFlight (.ref a) none) Q E s2) E s := by
  obtain ⟨oe, vs, oT, ts, a0, he, hc, hd, h1, hTa, hT, hdT, h3⟩ := x
  have hid : ∀ b, b ∈ a :: T :: frs (env :: outer) → (PySem.W.hideAll s.heap (a :: T :: frs (env :: outer))).get? b = none := fun b hb => PySem.W.hideAll_none _ hb
  have hl' : s.heap.FunFrames (PySem.W.hideAll s.heap (a :: T :: frs (env :: outer))) (env :: outer) := funs_hid hl fun b hb => hid b (List.mem_cons_of_mem _ (List.mem_cons_of_mem _ hb))
  have fl : Heap.FlyingW (PySem.W.hideAll s.heap (a :: T :: frs (env :: outer))) (env :: outer) a C a0 s.heap :=
    ⟨fun b o hb => PySem.W.of_hideAll _ hb, hid a List.mem_cons_self, hl', oe, vs, T, oT, ts, he, hc, hd, h1, hid T (List.mem_cons_of_mem _ List.mem_cons_self), hTa, hT, hdT, h3⟩
  refine wpAny_looks_onW hfr hf fl fun h4 held sm4 => wpAny_landsW held fun h5 fl5 sm5 => ?_
  obtain ⟨k1, _, k2, k3⟩ := fl5
  obtain ⟨oe', vs', T', oT', ts', g1, g2, g3, g4, g5, g6, g7, g8, g9⟩ := k3
  refine h h5 T' (fun b o n1 n2 n3 q => k1 b o (PySem.W.hideAll_get _ q (by simp only [List.mem_cons, not_or]; exact ⟨n1, n2, n3⟩))) (fun b o hb q => ?_) ⟨oe', vs', oT', ts', a0, g1, g2, g3, g4, g6, g7, g8, g9⟩ ?_
  · obtain ⟨_, o', ho', hnf⟩ := hl.mem hb
    rw [q] at ho'; cases ho'
    exact (sm4.trans sm5) b o q hnf
  · cases q : s.heap.get? T' with
    | none => exact .inl rfl
    | some o =>
      refine .inr ?_
      by_cases hm : T' ∈ a :: T :: frs (env :: outer)
      · rcases List.mem_cons.mp hm with z | hm
        · exact absurd z g6
        · rcases List.mem_cons.mp hm with z | hm
          · exact z
          · obtain ⟨_, o', ho', hnf⟩ := k2.mem hm
            rw [g7] at ho'; cases ho'
            exact absurd g8 (hnf _)
      · rw [PySem.W.hideAll_get _ q hm] at g5; cases g5
theorem land_again (x : XAt s.heap a C T) (h : ∀ h', (∀ b o, b ≠ T → s.heap.get? b = some o → h'.get? b = some o) → XAt h' a C T → Q () { s with heap := h' }) : wpAny M A (setFlight (.ref a) none) Q E s := by
  obtain ⟨oe, vs, oT, ts, a0, he, hc, hd, h1, hTa, hT, hdT, h3⟩ := x
  have h3' := (Array.getElem?_eq_some_iff.mp h3).1
  refine wpAny_setFlight_none he hd h1 hT hdT h3' (h _ (fun b o n q => (Heap.get?_update_other _ _ (Ne.symm n)).trans q) ?_)
  exact ⟨oe, vs, _, _, a0, (Heap.get?_update_other _ _ hTa).trans he, hc, hd, h1, hTa, Heap.get?_update_self _ hT (Obj.isFreed_of_fields (Obj.data_mapFields hdT _)), Obj.data_mapFields hdT _, by simp [h3']⟩
end
theorem un_more {fs : List Addr} {H H' : Hp} {h h1 h2 : Heap} {a T : Addr} (u : Un fs [] H H' h h1) (na : h.get? a = none) (nT : h.get? T = none)
    (k1 : ∀ b o, b ≠ a → b ≠ T → b ∉ fs → h1.get? b = some o → h2.get? b = some o) (k2 : ∀ b o, b ∈ fs → h1.get? b = some o → ∃ sl, h2.get? b = some { o with slots := sl }) : Un fs [] H H' h h2 := by
  have ne : ∀ b o, h.get? b = some o → b ≠ a ∧ b ≠ T := fun b o e => ⟨fun z => (by rw [z, na] at e; cases e), fun z => (by rw [z, nT] at e; cases e)⟩
  refine ⟨fun b o e n hb hx => k1 b o (ne b o e).1 (ne b o e).2 hb (u.keep b o e n hb hx), fun b o e n hb hx => ?_, u.free, fun b o e hx => ?_, u.tups, u.frzs, u.tbls⟩
  · obtain ⟨sl, e1⟩ := u.slot b o e n hb hx
    obtain ⟨sl', e2⟩ := k2 b _ hb e1
    exact ⟨sl', e2⟩
  · obtain ⟨o', e1⟩ := u.there b o e hx
    by_cases hb : b ∈ fs
    · obtain ⟨sl, e2⟩ := k2 b o' hb e1
      exact ⟨_, e2⟩
    · exact ⟨o', k1 b o' (ne b o e).1 (ne b o e).2 hb e1⟩
theorem hok_more {P : Program} {w : World} {fs : List Addr} {H : Hp} {h1 h2 : Heap} {a T : Addr} (x : HOk P w H h1) (ua : H a = none) (uT : H T = none) (uf : ∀ b ∈ fs, H b = none)
    (k1 : ∀ b o, b ≠ a → b ≠ T → b ∉ fs → h1.get? b = some o → h2.get? b = some o) : HOk P w H h2 := fun b u e => by
  have nn : ∀ c, H c = none → c = b ∨ H c = some (.own b) → False := fun c z hc => by
    rcases hc with rfl | hc
    · rw [z] at e; cases e
    · rw [z] at hc; cases hc
  exact (x b u e).stay (fun c v hc q => k1 c v (fun z => nn c (by rw [z]; exact ua) hc) (fun z => nn c (by rw [z]; exact uT) hc) (fun z => nn c (uf c z) hc) q) (fun _ q => q) fun _ _ q => q
/-! ### expressions that an exception may leave -/
def PEX (X : Cx) (e : Expr) (t : XK → TE) : Prop := ∀ (pins : List (Addr × Obj)) (s : Shared) (σ : St) (H : Hp) (Q : VK) (E : XK), L2.Inv X pins σ H s → t E σ H Q →
  wpAny (model X.prog X.w) X.A (eval e X.env) (EP X pins σ Q) (fun x s' => ∃ H1 s1, L2.Inv X pins σ H1 s1 ∧ CXE X.prog X.w X.stack H1 s1 E x s') s
def KX (K : PySem.W.Frag) (H : Hp) (E3 : EK3) (E : XK) : Prop := ∀ c C H3' H', TK H H' → HR K H3' H' → PySem.W.nsIn K mainGlobals c = some (some (.ref C)) → E3 c H3' → E (.ref C) none H'
theorem KX.mono {K : PySem.W.Frag} {H H1 : Hp} {E3 : EK3} {E : XK} (k : KX K H E3 E) (t : TK H H1) : KX K H1 E3 E := fun c C H3 H' t' => k c C H3 H' (t.trans t')
def liftEX (K : PySem.W.Frag) (t : EK3 → TE3) : XK → TE := fun E σ H Q => ∃ σ3 H3 Q3 E3, SR K H σ3 σ ∧ HR K H3 H ∧ t E3 σ3 H3 Q3 ∧ KE K H Q3 Q ∧ KX K H E3 E
def PEX3 (X : Cx) (e : Expr) (t : EK3 → TE3) : Prop := PEX X e (liftEX X.K t)
def liftFE (K : PySem.W.Frag) (sp : SpE) : Sp := fun vs H Q E => ∃ ds H3 Q3 E3, HR K H3 H ∧ RepL K H ds vs ∧ sp ds H3 Q3 E3 ∧ KE K H Q3 Q ∧ KX K H E3 E
structure FnE (P : Program) (w : World) (K : PySem.W.Frag) (mg : Str → Option Value) (base : Heap) (k : Nat) (x : Str) (ps : List Str) (sp : SpE) : Prop where
  ex : ∃ f fd, FnOk P w K mg base (CXE P w) k f fd ps (liftFE K sp) ∧ mg x = some (.ref f) ∧ PySem.W.keepIn K (.ref f) = true ∧ Binds K fd ps []
section
variable {X : Cx} {k : Nat} {x c : Str} {f : Addr} {fd : FuncData} {ps : List Str} {sp : SpE} {p pos : Pos} {e : Expr} {es : List Expr} {t : TA3}
theorem run_fnE {sp : Sp} {pins : List (Addr × Obj)} {σ : St} {H : Hp} {s : Shared} {Q : VK} {E : XK} {us : List Value} {vs : List V} (F : FnOk X.prog X.w X.K X.mg X.base (CXE X.prog X.w) k f fd ps sp) (hr : Room k X.A) (hb : Binds X.K fd ps [])
    (I : L2.Inv X pins σ H s) (r : Vals vs us) (h : sp vs H Q E) : wpAny (model X.prog X.w) X.A (call (.ref f) us) (EP X pins σ Q) (fun x s' => ∃ H1 s1, L2.Inv X pins σ H1 s1 ∧ CXE X.prog X.w X.stack H1 s1 E x s') s := by
  have hl : (us ++ []).length = ps.length := by rw [List.append_nil, ← r.length]; exact F.len _ _ _ _ h
  have hb' := hb s us I.kIn hl
  rw [List.append_nil] at hb'
  refine wpAny_call (codeAny_mono (F.run X.A X.stack s H ⟨us, []⟩ us vs Q E hr I.env0 hb' r h) fun r s' hq => ?_)
  cases r with
  | error e => exact ⟨H, s, I, hq⟩
  | ok fl =>
    cases fl with
    | ret u => exact I.after hq
    | next => exact False.elim hq
    | brk => exact False.elim hq
    | cont => exact False.elim hq
theorem p3_callE (F : FnE X.prog X.w X.K X.mg X.base k x ps sp) (hr : Room k X.A) (ha : PA3 X.nox (e :: es) t)
    (hg : Gl X x := by rfl) (hdb : (x == ("__debug__" : Str)) = false := by decide) (he : starEach (e :: es) X.env = (false, eval e X.env) :: starEach es X.env := by rfl) (hpl : (backTo pos (starEach es X.env)).any (·.1) = false := by rfl) :
    PEX3 X (.Call (.Name x p) (e :: es) [] pos) (cbE sp t) := by
  obtain ⟨f, fd, F, hm, hk, hb⟩ := F.ex
  intro pins s σ H Q E I ⟨σ3, H3, Q3, E3, sr, hr3, q, kk, kx⟩
  refine wpAny_Call_Name_kw (ld_glob I hg hm ?_ hdb)
  refine PySem.W.callWith_K (h₀ := X.base) I.ok.mod.kin hk (wpAny_mono (ha pos pins s σ H (fun vs H1 => liftFE X.K sp vs H1 Q E) (I.wish _) ⟨σ3, H3, _, sr, hr3, q, fun ds vs H3a Ha tka hra rs qa => ⟨ds, H3a, Q3, E3, hra, rs, qa, kk.mono tka, kx.mono tka⟩⟩) (fun us s1 ⟨vs, H1, I1, r, q1⟩ => ⟨I1.unwish.kIn, ?_⟩) fun _ _ z => False.elim z) he hpl
  exact run_fnE F hr hb I1.unwish r q1
/-- where the body lets it pass -/
theorem pe_of_x {t : EK3 → TE3} {E : XK} {E3 : EK3} (h : PEX3 X e t) (hp : Passes (CXE X.prog X.w) X E) (kx : KX X.K X.H₀ E3 E) : PE3 X e (t E3) := fun pins s σ H Q I ⟨σ3, H3, Q3, sr, hr3, q, kk⟩ =>
  wpAny_mono (h pins s σ H Q E I ⟨σ3, H3, Q3, E3, sr, hr3, q, kk, kx.mono ⟨I.base.tups, I.base.frzs⟩⟩) (fun _ _ z => z) fun x s' ⟨H1, s1, I1, z⟩ => hp pins σ H1 s1 x s' I1 z
end
theorem pass_no {X : Cx} : Passes (CXE X.prog X.w) X E0 := fun _ _ _ _ _ _ _ ⟨_, _, _, _, _, _, _, _, _, _, _, _, _, _, z⟩ => False.elim z
theorem kx_no {K : PySem.W.Frag} {H : Hp} : KX K H noE E0 := fun _ _ _ _ _ _ _ z => z
/-! ### raise -/
/-- an own class under ValueError, without an __init__ of its own -/
def ExcOk (K : PySem.W.Frag) (c : Str) : Prop := ∃ C, PySem.W.nsIn K mainGlobals c = some (some (.ref C)) ∧ PySem.W.excIn K C [.type "ValueError", .type "Exception", .type "BaseException", .type "object"] "ValueError.__new__" = true
theorem exc_obj {K : PySem.W.Frag} {h : Heap} {C : Addr} {l : List Value} {id : String} (X : K.In h) (q : PySem.W.excIn K C l id = true) :
    ∃ bm N nm qn bs hd sn sub ab col dd k0 k1 k2 k3 k5 mN, h.get? C = some (excClassObj nm qn C N bs bm hd sn sub ab col dd k0 k1 k2 k3 k5 id) ∧ h.Ns N mN ∧ mN "__init__" = none ∧ OwnTail h l bm := by
  unfold PySem.W.excIn at q
  split at q
  · rename_i d1 c1 s1 look
    split at q
    · rename_i C1 bm y0 y1 y2 y3 id1 y5 em es
      simp only [Bool.and_eq_true, beq_iff_eq, Bool.not_eq_true'] at q
      obtain ⟨⟨⟨⟨⟨r1, r2⟩, r3⟩, r4⟩, r5⟩, r6⟩ := q
      subst r1 r2
      rcases c1 with ⟨nm, bs, mro, ns, qn, hd, sn, sub, ab, col, del⟩
      dsimp only at em r3 r5 r6
      subst em r3
      have e6 : s1 = #[y0, y1, y2, y3, some (.builtin id1), y5] := by
        rcases s1 with ⟨l1⟩
        simp only at es
        rw [es]
      subst e6
      exact ⟨bm, ns, nm, qn, bs, hd, sn, sub, ab, col, d1, y0, y1, y2, y3, y5, _, X _ _ look, .of_isNs (PySem.W.isNs_of_in X r5), PySem.W.nsMap_none_of_in X r5 r6, PySem.W.tail_of_in X r4⟩
    · cases q
  · cases q
section
variable {X : Cx} {c : Str} {e : Expr} {te : TE3} {np cpos pos : Pos} {E : XK} {E3 : EK3}
theorem s3_raise (hr : Rises X E) (kx : KX X.K X.H₀ E3 E) (hk : ExcOk X.K c) (hc : X.calm = true) (he : PE3 X e te) (hg : Gl X c := by rfl) (hdb : (c == ("__debug__" : Str)) = false := by decide)
    (hs : starEach [e] X.env = (false, eval e X.env) :: starEach [] X.env := by rfl) : PS3 X (.Raise (some (.Call (.Name c np) [e] [] cpos)) none pos) (rz3 E3 c te) := by
  obtain ⟨C, hC, hx⟩ := hk
  intro pins s σ H D I ⟨σ3, H3, D3, sr, hr3, q, kk⟩
  have hm := PySem.W.mg_of I.mod.kin I.mod.glob hC
  obtain ⟨bm, N, nm, qn, bs, hd, sn, sub, ab, col, dd, k0, k1, k2, k3, k5, mN, hCo, hN, hni, T⟩ := exc_obj I.mod.kin hx
  have FB := PySem.F.excBase_ValueError
  refine wpAny_Raise_call_subT (C := C) (nm := nm) (q := qn) (N := N) (bs := bs) (bm := bm) (hdct := hd) (sn := sn) (sub := sub) (ab := ab) (col := col) (dd := dd) (k0 := k0) (k1 := k1) (k2 := k2) (k3 := k3) (k5 := k5)
    FB (mN := mN) (T.hasType FB.hasBase) (I.ok.hd hc) (by rw [hs]; rfl) hni (ld_glob I hg hm ⟨rfl, ?_⟩ hdb)
  have ha : PA3 X [e] (cons3 te nil3) := a3_cons he a3_nil hs
  have h1 := ha cpos pins s σ H (fun vs H1 => vs.length ≤ 1 ∧ E (.ref C) none H1) I ⟨σ3, H3, fun ds H3' => (match ds with | [_] => ∃ H2, Sub3 H2 H3' ∧ E3 c H2 | _ => False), sr, hr3, q, fun ds vs H3a Ha tka hra rs qa => by
    cases rs with
    | nil => exact qa.elim
    | cons r1 r2 =>
      cases r2 with
      | cons _ _ => exact qa.elim
      | nil =>
        obtain ⟨H2, sb, q2⟩ := qa
        exact ⟨Nat.le_refl _, kx c C H2 Ha (TK.trans ⟨I.base.tups, I.base.frzs⟩ tka) (hra.sub sb) hC q2⟩⟩
  rw [hs] at h1 ⊢
  refine Calls.evalArgs_plain (wpAny_mono h1 (fun vs s2 ⟨ws, H1, I1, r, l1, hE⟩ => ⟨rfl, ?_, I1.bk _ _ hCo, hN.keeps I1.bk, T.keeps I1.bk, fun h' x hx => hr pins σ H1 s2 h' x C vs I1 hx hE⟩) fun _ _ y => y)
  have := r.length
  show vs.length ≤ sizeLine
  rw [← this]; exact Nat.le_trans l1 (by decide)
end
end L3

namespace L3
open PySem PySem.Spec PyProof.Rows L2
section
variable {X : Cx} {st : Stmt} {sts : List Stmt} {e : Expr} {t : TS3} {te : TE3} {tt : TT3}
theorem s3_nox (h : PS3 X.nox st t) : PS3 X st t := fun pins s σ H D I hw => wpAny_mono (h pins s σ H D (I.wish _) hw) (fun _ _ q => q.unwish) fun _ _ z => False.elim z
theorem t3_nox (h : PT3 X.nox e tt) : PT3 X e tt := PT.nox h
end
/-- a def of the text that an exception may leave -/
theorem fnE3 {P : Program} {w : World} {K : PySem.W.Frag} {mg : Str → Option Value} {base : Heap} {x qual : Str} {st : Stmt} {f : Addr} {fd : FuncData} {N ps : List Str} {k : Nat} {sp : SpE} {t : EK3 → TS3} (F : Fun K x qual st f fd) (S : FnScope N ps (defScope st))
    (len : ∀ ds H Q E, sp ds H Q E → ds.length = ps.length)
    (hbody : ∀ (cdv : Value) (A : Around) (outer : List Env) (s : Shared) (H : Hp) (E : XK) (E3 : EK3), Room k (A.deeper (envOfC qual (defScope st) s.heap.objs.size f cdv)) → KX K H E3 E →
      PSs3 (cxOf (CXE P w) P w K mg base N qual (defScope st) f cdv A outer s H E) (defBody st) (t E3))
    (rd : ∀ ds H3 Q3 E3, sp ds H3 Q3 E3 → t E3 (fin3 Q3) (start3 N ds) H3) : FnOk P w K mg base (CXE P w) (k + 1) f fd ps (liftFE K sp) := by
  obtain ⟨oc, od, kV, doc, pm, an, cdv, ct, osl, rfl, lk, hcd⟩ := F.ex
  refine fn_of lk hcd S (fun vs H Q E h => ?_) fun A outer s H vs Q E hr h => ?_
  · obtain ⟨ds, H3, Q3, E3, _, rs, q, _⟩ := h
    rw [← rs.length]
    exact len ds H3 Q3 E3 q
  · obtain ⟨ds, H3, Q3, E3, hr3, rs, q, kk, kx⟩ := h
    refine ⟨_, hbody cdv A outer s H E E3 hr kx, start3 N ds, H3, _, sr_start rs, hr3, rd ds H3 Q3 E3 q, ⟨fun σ3 σ H3' H' tk sr hr' z => ?_, fun d v H3' H' tk hr' rd z => ?_, fun _ _ _ _ _ _ _ z => z.elim, fun _ _ _ _ _ _ _ z => z.elim⟩⟩
    · obtain ⟨H'', sub, q'⟩ := z
      exact kk _ _ _ _ tk (hr'.sub sub) .non q'
    · obtain ⟨H'', sub, q'⟩ := z
      exact kk _ _ _ _ tk (hr'.sub sub) rd q'
theorem fnE3' {P : Program} {w : World} {K : PySem.W.Frag} {mg : Str → Option Value} {base : Heap} {x qual : Str} {st : Stmt} {f : Addr} {fd : FuncData} {N ps : List Str} {k : Nat} {sp : SpE} {t : EK3 → TS3} (F : Fun K x qual st f fd) (S : FnScope N ps (defScope st))
    (hm : mg x = some (.ref f)) (hb : Binds K fd ps []) (len : ∀ ds H Q E, sp ds H Q E → ds.length = ps.length)
    (hbody : ∀ (cdv : Value) (A : Around) (outer : List Env) (s : Shared) (H : Hp) (E : XK) (E3 : EK3), Room k (A.deeper (envOfC qual (defScope st) s.heap.objs.size f cdv)) → KX K H E3 E →
      PSs3 (cxOf (CXE P w) P w K mg base N qual (defScope st) f cdv A outer s H E) (defBody st) (t E3))
    (rd : ∀ ds H3 Q3 E3, sp ds H3 Q3 E3 → t E3 (fin3 Q3) (start3 N ds) H3) : FnE P w K mg base (k + 1) x ps sp := ⟨f, fd, fnE3 F S len hbody rd, hm, F.kp, hb⟩
/-! ### except -/
/-- c is cx or under it -/
def SubX (K : PySem.W.Frag) (c cx : Str) : Prop := ∃ C Cx, PySem.W.nsIn K mainGlobals c = some (some (.ref C)) ∧ PySem.W.nsIn K mainGlobals cx = some (some (.ref Cx)) ∧ PySem.W.mroIn K C (.ref Cx) = some true ∧ PySem.W.mroIn K Cx (.type "BaseException") = some true ∧ PySem.W.typeIn K (.ref Cx) = some (.type "type")
theorem exc_matches {K : PySem.W.Frag} {M : Model} {A : Around} {E : Value → Shared → Prop} {s : Shared} {a C Cx : Addr} {o : Obj} {Q : Bool → Shared → Prop} (X : K.In s.heap) (he : s.heap.get? a = some o) (hc : o.cls = .ref C) (h1 : PySem.W.mroIn K C (.ref Cx) = some true)
    (h2 : PySem.W.mroIn K Cx (.type "BaseException") = some true) (h3 : PySem.W.typeIn K (.ref Cx) = some (.type "type")) (hq : Q true s) : wpAny M A (excMatches (.ref a) (.ref Cx)) Q E s := by
  have L1 := PySem.W.looks_mroIn (M := M) X h1
  have L2' := PySem.W.looks_mroIn (M := M) X h2
  have L3' : PySem.W.Looks M s.heap (typeOf (.ref Cx)) (.type "type") := PySem.W.looks_typeIn X h3
  have L4 : PySem.W.Looks M s.heap (typeOf (.ref a)) (.ref C) := hc ▸ (PySem.W.Looks.ld he).andThen .now
  have f := tc_notTuple
  have L5 : PySem.W.Looks M s.heap (isType (.ref Cx)) true := by
    unfold PySem.W.mroIn PySem.W.clsIn at h2
    obtain ⟨cd, ho, _⟩ := Option.bind_eq_some_iff.mp h2
    split at ho
    · rename_i c' d' cd' sl' ho'
      intro A' Q' E' s' k q
      unfold isType loadHead
      exact wpAny_bind (wpAny_loadPart (k _ _ (X _ _ ho')) (wpAny_pure q))
    · cases ho
  unfold excMatches isInstance isExcClass
  refine wpAny_bind (wpAny_bind (L3'.here ?_))
  rw [f]
  refine wpAny_pure ?_
  simp only [Bool.false_eq_true, if_false]
  refine wpAny_bind (wpAny_pure ?_)
  simp only [List.forIn_cons, List.forIn_nil]
  refine wpAny_bind (wpAny_bind (wpAny_bind (wpAny_bind (L5.here ?_))))
  simp only [if_true]
  refine L2'.here ?_
  simp only [Bool.not_true, Bool.false_eq_true, if_false]
  refine wpAny_pure ?_
  refine wpAny_pure ?_
  refine wpAny_bind (L4.here ?_)
  refine wpAny_bind (wpAny_bind (wpAny_bind (L1.here ?_)))
  simp only [if_true]
  refine wpAny_pure ?_
  refine wpAny_pure ?_
  exact wpAny_pure hq
end L3
namespace L3
open PySem PySem.Spec PyProof.Rows L2
abbrev inSuite (X : Cx) (A' : Around) : Cx := { X with A := A', calm := false, xe := fun _ _ => False }
section
variable {X : Cx} {A' : Around} {pins : List (Addr × Obj)} {σ : St} {H : Hp} {s : Shared}
theorem inv_mark (I : L2.Inv X pins σ H s) (hA : A'.frames = X.A.frames) : L2.Inv (inSuite X A') pins σ H s :=
  ⟨⟨I.ok.mod, I.ok.kind, I.ok.glob, I.ok.blt, I.ok.above, I.ok.inj, I.ok.has, I.ok.cab, (fun z => by cases z), hA.trans I.ok.frames, I.ok.stk, I.ok.exf, I.ok.bs, I.ok.bsz, I.ok.noex, I.ok.exfs, I.ok.funs, I.ok.frf⟩, I.os, I.bare, I.base, I.loc, I.cell, I.free, I.freeC, I.pin, I.hok, I.len⟩
theorem inv_unmark (ok : X.Ok) (I : L2.Inv (inSuite X A') pins σ H s) : L2.Inv X pins σ H s := ⟨ok, I.os, I.bare, I.base, I.loc, I.cell, I.free, I.freeC, I.pin, I.hok, I.len⟩
theorem sp_unmark (ok : X.Ok) {D : Ends} {f : Flow} {s' : Shared} (h : SP (inSuite X A') pins D f s') : SP X pins D f s' := by
  cases f with
  | next => obtain ⟨σ', H', I, q⟩ := h; exact ⟨σ', H', inv_unmark ok I, q⟩
  | brk => obtain ⟨σ', H', I, q⟩ := h; exact ⟨σ', H', inv_unmark ok I, q⟩
  | cont => obtain ⟨σ', H', I, q⟩ := h; exact ⟨σ', H', inv_unmark ok I, q⟩
  | ret u => obtain ⟨v, σ', H', I, r, q⟩ := h; exact ⟨v, σ', H', inv_unmark ok I, r, q⟩
end
theorem subs_nil {K : PySem.W.Frag} {cx : Str} : ∀ c ∈ ([] : List Str), SubX K c cx := fun _ h => absurd h (by simp)
theorem subs_cons {K : PySem.W.Frag} {c cx : Str} {cs : List Str} (h : SubX K c cx) (r : ∀ d ∈ cs, SubX K d cx) : ∀ d ∈ c :: cs, SubX K d cx := fun d hd => by
  rcases List.mem_cons.mp hd with rfl | hd
  · exact h
  · exact r d hd
end L3

/-! ### enumerate(list), int(bool) -/
namespace L3
open PySem PySem.Spec PyProof.Rows L2
section
variable {X : Cx} {tg : Expr}
end
end L3

namespace L3
open PySem PySem.Spec PyProof.Rows L2 PySem.Calls Builtin Builtin.ObjectAttr Builtin.Getset_descriptor
/-! ### isinstance of an exception -/
/-- what is known of an exception's class C -/
structure XCls (K : PySem.W.Frag) (C : Addr) : Prop where
  ga : PySem.W.findIn K (.ref C) "__getattribute__" = some (some (.builtin "BaseException.__getattribute__"))
  gh : PySem.W.findIn K (.ref C) "__getattr__" = some none
  cl : PySem.W.findIn K (.ref C) "__class__" = some (some (.builtin "object.__class__"))
  gs : PySem.W.specialIn K (.builtin "object.__class__") "__get__" = some (some (.builtin "getset_descriptor.__get__"))
  tk : PySem.W.takesIn K (.builtin "object.__class__") = some true
  mo : PySem.W.mroIn K C (.type "object") = some true
  mb : PySem.W.mroIn K C (.type "BaseException") = some true
def ExcAt (a C : Addr) (h : Heap) : Prop := ∃ o vs, h.get? a = some o ∧ o.cls = .ref C ∧ o.data = .fields vs
section
variable {prog : Program} {w : World} {A : Around} {E : Value → Shared → Prop} {s : Shared} {K : PySem.W.Frag} {a C : Addr}
theorem xc_type {M : Model} {h : Heap} (p : ExcAt a C h) : PySem.W.Looks M h (typeOf (.ref a)) (.ref C) := by
  obtain ⟨o, vs, h1, h2, _⟩ := p
  exact h2 ▸ (PySem.W.Looks.ld h1).andThen .now
theorem xc_find {M : Model} {h : Heap} (X : K.In h) (c : XCls K C) : PySem.W.Looks M h (find (.ref a) (.ref C) "__class__") (.bind (.builtin "getset_descriptor.__get__") (.builtin "object.__class__")) := by
  have L1 := PySem.W.looks_findIn (M := M) X c.cl
  have L2' : PySem.W.Looks M h (getOf (some (.builtin "object.__class__"))) (some (.builtin "getset_descriptor.__get__")) := PySem.W.looks_specialIn X c.gs
  have L3' := PySem.W.looks_takesIn (M := M) X c.tk
  refine L1.andThen (L2'.andThen ?_)
  exact (show PySem.W.Looks M h (dataDescriptor? (some (.builtin "object.__class__")) (some (.builtin "getset_descriptor.__get__"))) (some (.builtin "getset_descriptor.__get__", .builtin "object.__class__")) from L3'.andThen .now).andThen (PySem.W.Looks.tag .now)
theorem xc_get {tp : Value} {R : Result → Shared → Prop} (X : K.In s.heap) (c : XCls K C) (p : ExcAt a C s.heap) (h : R (.ok (.ret (.ref C))) s) :
    codeAny (model prog w) A (.call (.builtin "getset_descriptor.__get__") ⟨[.builtin "object.__class__", .ref a, tp], []⟩) R s := by
  obtain ⟨hh, g, dr, t, os⟩ := s
  have L0 := xc_type (M := model prog w) p
  have L1 := PySem.W.looks_mroIn (M := model prog w) X c.mo
  refine codeAny_call_builtin PySem.W.KF.slot_gs.plain PySem.W.KF.entry_gs (PySem.W.KF.slot_gs.check _ _ _ _ _ _ _ _ PySem.W.KF.type_class (PySem.W.KF.args_gs _ _ _) ?_)
  unfold Builtin.«getset_descriptor.__get__» descrGet
  rw [PySem.W.dga_obj]
  refine wpAny_bind (wpAny_pure ?_)
  unfold descrGetter descrCheckInstance descrNameAndClass isInstance
  simp only [PySem.W.KF.owner_class]
  repeat lk
  refine ⟨Code.quiet_builtin _ (by decide +kernel), codeAny_builtin PySem.W.KF.entry_class ?_⟩
  unfold Builtin.«object.__class__» shownTypeOf
  repeat lk
  exact h
theorem xc_check {nameV : Value} {Q : Unit → Shared → Prop} (X : K.In s.heap) (c : XCls K C) (p : ExcAt a C s.heap) (hq : Q () s) : wpAny (model prog w) A (checkBuiltinCall "BaseException.__getattribute__" ⟨[.ref a, nameV], []⟩) Q E s := by
  have hk : builtinKind "BaseException.__getattribute__" = some .slot := by decide +kernel
  have hsplit : splitId "BaseException.__getattribute__" = some ("BaseException", "__getattribute__") := by decide +kernel
  have ha := F.args_bexc_ga (.ref a) nameV
  obtain ⟨hh, g, dr, t, os⟩ := s
  have L0 := xc_type (M := model prog w) p
  have L1 := PySem.W.looks_mroIn (M := model prog w) X c.mb
  simp only [checkBuiltinCall, hk, hsplit]
  refine wpAny_bind ?_
  unfold isInstance
  refine wpAny_bind (L0.at (L1.at ?_))
  repeat (first | assumption | wp_step)
theorem xc_entry {tk : Tok} {Q : Fin → Shared → Prop} (X : K.In s.heap) (c : XCls K C) (p : ExcAt a C s.heap) (h : Q (.done (.ret (.ref C))) s) :
    wpAny (model prog w) A (Builtin.«object.__getattribute__» ⟨[.ref a, .str "__class__" tk], []⟩) Q E s := by
  obtain ⟨hh, g, dr, t, os⟩ := s
  have L0 := xc_type (M := model prog w) p
  have L1 := xc_find (a := a) (M := model prog w) X c
  refine wpAny_bind (wpAny_pure (wpAny_bind (wpAny_pure (wpAny_bind (L0.at (wpAny_bind (L1.at ?_)))))))
  show wpAny _ _ (bindTo _ _ _ _) _ _ _
  unfold bindTo
  repeat (any_goals (first | assumption | wp_step))
  refine xc_get X c p ?_
  repeat (any_goals (first | assumption | wp_step))
theorem xc_class {Q : Option Value → Shared → Prop} (X : K.In s.heap) (c : XCls K C) (p : ExcAt a C s.heap) (h : Q (some (.ref C)) { s with toks := s.toks + 1 }) : wpAny (model prog w) A (getAttr? (.ref a) "__class__") Q E s := by
  obtain ⟨hh, g, d, t, os⟩ := s
  have L0 := xc_type (M := model prog w) p
  have L1 := PySem.W.looks_findIn (M := model prog w) X c.ga
  have L2' := PySem.W.looks_findIn (M := model prog w) X c.gh
  have f3 := F.attr_ValueError.ga.bind (.ref a)
  unfold getAttr? getAttrBy? getAttrBy
  refine wpAny_bind (wpAny_mkText (wpAny_bind (wpAny_attempt (wpAny_holding (wpAny_bind (L0.at (wpAny_bind (L1.at ?_))))))))
  show wpAny _ _ (getAttrByItsOwn _ _ _ _ _ _) _ _ _
  unfold getAttrByItsOwn
  refine wpAny_bind ?_
  show wpAny _ _ (typeLookup _ _) _ _ _
  refine L2'.at ?_
  refine wpAny_bind (wpAny_attempt (wpAny_holding ?_))
  show wpAny _ _ (boundAndCalled _ _ _) _ _ _
  unfold boundAndCalled
  rw [f3]
  refine wpAny_bind (wpAny_pure ?_)
  refine wpAny_call (codeAny_call_builtin F.attr_ValueError.ga.plain F.entry_bexc_ga (xc_check (s := ⟨hh, g, d, t + 1, os⟩) X c p (xc_entry (s := ⟨hh, g, d, t + 1, os⟩) X c p ?_)))
  exact PySem.W.handed_on rfl (wpAny_pure h)
theorem kitx_exc (c : XCls K C) : PySem.W.KitX K (.ref a) (.ref C) (ExcAt a C) where
  ty := fun _ _ _ p => xc_type p
  it := fun M h X _ => by
    have h2 := c.mb
    unfold PySem.W.mroIn PySem.W.clsIn at h2
    obtain ⟨cd, ho, _⟩ := Option.bind_eq_some_iff.mp h2
    split at ho
    · rename_i c' d' cd' sl' ho'
      intro A' Q' E' s' k q
      unfold isType loadHead
      exact wpAny_bind (wpAny_loadPart (k _ _ (X _ _ ho')) (wpAny_pure q))
    · cases ho
  ne := fun h tp dd its n sl X htp => by
    have h2 := c.mb
    unfold PySem.W.mroIn PySem.W.clsIn at h2
    obtain ⟨cd, ho, _⟩ := Option.bind_eq_some_iff.mp h2
    refine Bool.eq_false_iff.mpr fun q => ?_
    have e : C = tp := Value.ref.inj (beq_iff_eq.mp q)
    subst e
    split at ho
    · rename_i c' d' cd' sl' ho'
      have z := (X _ _ ho').symm.trans htp
      cases z
    · cases ho
  ca := fun X p k => xc_class X c p k
end
end L3

namespace L3
open PySem PySem.Spec PyProof.Rows L2
/-- an exception of class c is (b) one of class cx -/
def IsX (K : PySem.W.Frag) (c cx : Str) (b : Bool) : Prop := ∃ C Cx, PySem.W.nsIn K mainGlobals c = some (some (.ref C)) ∧ PySem.W.nsIn K mainGlobals cx = some (some (.ref Cx)) ∧ XCls K C ∧ PySem.W.kitOne K (.ref C) (.ref Cx) = some b
def IsB (K : PySem.W.Frag) (c : Str) (T : String) (b : Bool) : Prop := ∃ C, PySem.W.nsIn K mainGlobals c = some (some (.ref C)) ∧ XCls K C ∧ PySem.W.kitOne K (.ref C) (.type T) = some b
theorem isx_nil {P : Str × Bool → Prop} : ∀ p ∈ ([] : List (Str × Bool)), P p := fun _ h => absurd h (by simp)
theorem isx_cons {P : Str × Bool → Prop} {p : Str × Bool} {l : List (Str × Bool)} (h : P p) (r : ∀ q ∈ l, P q) : ∀ q ∈ p :: l, P q := fun q hq => by
  rcases List.mem_cons.mp hq with rfl | hq
  · exact h
  · exact r q hq
theorem lookup_mem {c : Str} {b : Bool} : ∀ {l : List (Str × Bool)}, l.lookup c = some b → (c, b) ∈ l
  | [], h => by simp at h
  | (d, x) :: l, h => by
    rw [List.lookup_cons] at h
    split at h
    · rename_i q; cases h; rw [beq_iff_eq.mp q]; exact List.mem_cons_self
    · exact List.mem_cons_of_mem _ (lookup_mem h)
section
variable {X : Cx} {e : Expr} {ta : TE3} {cx : Str} {tbl : List (Str × Bool)} {p np pos : Pos}
theorem isi_exc {pins : List (Addr × Obj)} {σ : St} {H : Hp} {s : Shared} {Q : VK} {a C : Addr} {cv : Value} {b : Bool} (I : L2.Inv X pins σ H s) (x : XCls X.K C) (ha : H a = some (excO a C)) (k : PySem.W.kitOne X.K (.ref C) cv = some b) (q : Q (.bl b) H) :
    wpAny (model X.prog X.w) X.A (call (.builtin "isinstance") [.ref a, cv]) (EP X pins σ Q) X.xe s := by
  have y : ExcAt a C s.heap := (I.hok a _ ha).1
  exact PySem.W.kia_one (kitx_exc x) I.kIn y k (fun z => nomatch z) fun tk => ⟨.bl b, H, I.tok tk, rfl, q⟩
theorem p3_isx (h : ∀ q ∈ tbl, IsX X.K q.1 cx q.2) (hm : X.mg "isinstance" = none) (ha : PE3 X e ta) (hgc : Gl X cx := by rfl) (hdc : (cx == ("__debug__" : Str)) = false := by decide) (hg : Gl X "isinstance" := by rfl)
    (hv : bootBuiltins "isinstance" = some (.builtin "isinstance") := by rfl)
    (he : starEach [e, .Name cx np] X.env = (false, eval e X.env) :: starEach [.Name cx np] X.env := by rfl) (he2 : starEach [.Name cx np] X.env = (false, eval (.Name cx np) X.env) :: starEach [] X.env := by rfl) (hpl : (backTo pos (starEach [.Name cx np] X.env)).any (·.1) = false := by rfl) :
    PE3 X (.Call (.Name "isinstance" p) [e, .Name cx np] [] pos) (isx3 tbl ta) := by
  intro pins s σ H Q I ⟨σ3, H3, Q3, sr, hr3, q, kk⟩
  refine wpAny_Call_Name_kw (ld_blt I hg hm hv ?_)
  refine PyProof.Rows.callWith_builtin1 ?_ he hpl
  rw [he]
  show wpAny _ _ (spliced ((false, eval e X.env) :: backTo pos (starEach [.Name cx np] X.env))) _ _ s
  refine Calls.spliced_cons (thn (ha pins s σ H (fun v H1 => ∃ a c b C Cx, v = .ref a ∧ PySem.W.nsIn X.K mainGlobals cx = some (some (.ref Cx)) ∧ XCls X.K C ∧ H1 a = some (excO a C) ∧ PySem.W.kitOne X.K (.ref C) (.ref Cx) = some b ∧ (c, b) ∈ tbl ∧ Q (.bl b) H1) I ⟨σ3, H3, _, sr, hr3, q, fun d v H3a Ha tka hra rx qa => ?_⟩) fun u s1 ⟨v, H1, I1, r1, q1⟩ => ?_)
  · cases rx with
    | ref a =>
      simp only [isxk] at qa
      split at qa
      · rename_i c hc
        split at qa
        · rename_i b hb
          obtain ⟨C, Cx, h1, h2, h3, h4⟩ := h _ (lookup_mem hb)
          obtain ⟨C', h5, h6⟩ := hra a _ hc
          have eC : C' = C := by rw [h1] at h5; cases h5; rfl
          subst eC
          exact ⟨a, c, b, C', Cx, rfl, h2, h3, h6, h4, lookup_mem hb, kk _ _ _ _ tka hra (.bl b) qa⟩
        · exact qa.elim
      · exact qa.elim
    | _ => exact qa.elim
  · obtain ⟨a, c, b, C, Cx, rfl, h2, h3, h6, h4, _, hq⟩ := q1
    obtain rfl : u = Value.ref a := r1
    rw [he2]
    have hmx := PySem.W.mg_of I1.mod.kin I1.mod.glob h2
    refine Calls.spliced_cons (ld_glob I1 hgc hmx ?_ hdc)
    refine wpAny_pure ?_
    exact isi_exc I1 h3 h6 h4 hq
theorem p3_isb {T : String} (h : ∀ q ∈ tbl, IsB X.K q.1 T q.2) (hm : X.mg "isinstance" = none) (ha : PE3 X e ta) (hmc : X.mg cx = none) (hvc : bootBuiltins cx = some (.type T)) (hgc : Gl X cx := by rfl) (hnc : cx ≠ "__name__" := by decide) (hdc : (cx == ("__debug__" : Str)) = false := by decide) (hg : Gl X "isinstance" := by rfl)
    (hv : bootBuiltins "isinstance" = some (.builtin "isinstance") := by rfl)
    (he : starEach [e, .Name cx np] X.env = (false, eval e X.env) :: starEach [.Name cx np] X.env := by rfl) (he2 : starEach [.Name cx np] X.env = (false, eval (.Name cx np) X.env) :: starEach [] X.env := by rfl) (hpl : (backTo pos (starEach [.Name cx np] X.env)).any (·.1) = false := by rfl) :
    PE3 X (.Call (.Name "isinstance" p) [e, .Name cx np] [] pos) (isx3 tbl ta) := by
  intro pins s σ H Q I ⟨σ3, H3, Q3, sr, hr3, q, kk⟩
  refine wpAny_Call_Name_kw (ld_blt I hg hm hv ?_)
  refine PyProof.Rows.callWith_builtin1 ?_ he hpl
  rw [he]
  show wpAny _ _ (spliced ((false, eval e X.env) :: backTo pos (starEach [.Name cx np] X.env))) _ _ s
  refine Calls.spliced_cons (thn (ha pins s σ H (fun v H1 => ∃ a c b C, v = .ref a ∧ XCls X.K C ∧ H1 a = some (excO a C) ∧ PySem.W.kitOne X.K (.ref C) (.type T) = some b ∧ (c, b) ∈ tbl ∧ Q (.bl b) H1) I ⟨σ3, H3, _, sr, hr3, q, fun d v H3a Ha tka hra rx qa => ?_⟩) fun u s1 ⟨v, H1, I1, r1, q1⟩ => ?_)
  · cases rx with
    | ref a =>
      simp only [isxk] at qa
      split at qa
      · rename_i c hc
        split at qa
        · rename_i b hb
          obtain ⟨C, h1, h3, h4⟩ := h _ (lookup_mem hb)
          obtain ⟨C', h5, h6⟩ := hra a _ hc
          have eC : C' = C := by rw [h1] at h5; cases h5; rfl
          subst eC
          exact ⟨a, c, b, C', rfl, h3, h6, h4, lookup_mem hb, kk _ _ _ _ tka hra (.bl b) qa⟩
        · exact qa.elim
      · exact qa.elim
    | _ => exact qa.elim
  · obtain ⟨a, c, b, C, rfl, h3, h6, h4, _, hq⟩ := q1
    obtain rfl : u = Value.ref a := r1
    rw [he2]
    refine Calls.spliced_cons (ld_blt I1 hgc hmc hvc ?_ hnc hdc)
    refine wpAny_pure ?_
    exact isi_exc I1 h3 h6 h4 hq
end
/-! ### statements that an exception may leave; except .. as .. -/
def PSX (X : Cx) (st : Stmt) (t : XK → TS) : Prop := ∀ (pins : List (Addr × Obj)) (s : Shared) (σ : St) (H : Hp) (D : Ends) (E : XK), L2.Inv X pins σ H s → t E D σ H →
  wpAny (model X.prog X.w) X.A (exec st X.env) (SP X pins D) (fun x s' => ∃ H1 s1, L2.Inv X pins σ H1 s1 ∧ CXE X.prog X.w X.stack H1 s1 E x s') s
def liftSX (K : PySem.W.Frag) (t : EK3 → TS3) : XK → TS := fun E D σ H => ∃ σ3 H3 D3 E3, SR K H σ3 σ ∧ HR K H3 H ∧ t E3 D3 σ3 H3 ∧ KS K H D3 D ∧ KX K H E3 E
def PSX3 (X : Cx) (st : Stmt) (t : EK3 → TS3) : Prop := PSX X st (liftSX X.K t)
section
variable {X : Cx} {pins : List (Addr × Obj)} {σ : St} {H : Hp} {s : Shared}
theorem SR.setN {K : PySem.W.Frag} {H : Hp} {σ3 : St3} {σ : St} (s : SR K H σ3 σ) (i : Nat) : SR K H (σ3.set i none) (σ.set i none) := by
  refine ⟨by simp [s.len], fun j e h => ?_⟩
  by_cases hj : j = i
  · subst hj
    by_cases hl : j < σ3.length
    · rw [List.getElem?_set_self hl] at h; cases h
    · rw [List.getElem?_eq_none (by simpa using hl)] at h; cases h
  · rw [List.getElem?_set_ne (Ne.symm hj)] at h
    obtain ⟨u, h1, h2⟩ := s.get j e h
    exact ⟨u, by rw [List.getElem?_set_ne (Ne.symm hj)]; exact h1, h2⟩
theorem inv_forget {M : Model} {A : Around} {E : Value → Shared → Prop} {i : Nat} {x : Str} {pos : Pos} {Q : Unit → Shared → Prop} (I : L2.Inv X pins σ H s) (hN : X.N.Nodup) (hi : X.N[i]? = some x) (hx : X.env.kindOf x = some .local)
    (h : ∀ s', L2.Inv X pins (σ.set i none) H s' → Q () s') : wpAny M A (do bindName X.env x .none; unbindBehindTheSuite X.env x pos) Q E s := by
  obtain ⟨m, hn, hl⟩ := id I.loc
  have hcls : (X.env.scope.kind == .class || (X.env.scope.kind == .module && X.env.locals != X.env.globals)) = false := by rw [I.ok.kind]; rfl
  have hiσ : i < σ.length := by rw [I.len]; exact (List.getElem?_eq_some_iff.mp hi).1
  have cne := I.cne
  refine wpAny_nameGoes_keeps hx hn hcls fun h' v hn' hs => ?_
  obtain ⟨oL, _, _, hoL, _⟩ := id hn
  have ne : ∀ b o, X.s₀.heap.get? b = some o → b ≠ X.env.locals := fun b o e => Nat.ne_of_lt (Nat.lt_of_lt_of_le (Heap.lt_size e) I.ok.above)
  refine h _ ⟨I.ok, I.os, I.bare, ⟨fun b o e n hb hx => (hs.2 b (ne b o e)).trans (I.base.keep b o e n hb hx), fun b o e n hb hx => ?_, I.base.free, fun b o e hx => ?_, I.base.tups, I.base.frzs, I.base.tbls⟩, ⟨_, hn', fun j y v' e1 e2 e3 => ?_⟩, fun y c e => ?_, I.free, I.freeC, fun p hp => ?_, fun b ob e => ?_, by simpa using I.len⟩
  · obtain ⟨sl, e1⟩ := I.base.slot b o e n hb hx
    exact ⟨sl, (hs.2 b (ne b o e)).trans e1⟩
  · obtain ⟨o', e1⟩ := I.base.there b o e hx
    exact ⟨o', (hs.2 b (ne b o e)).trans e1⟩
  · by_cases hj : j = i
    · subst hj
      rw [List.getElem?_set_self hiσ] at e2
      cases e2
    · rw [List.getElem?_set_ne (Ne.symm hj)] at e2
      obtain ⟨u', r', q⟩ := hl j y v' e1 e2 e3
      refine ⟨u', r', ?_⟩
      rcases q with ⟨k, e⟩ | ⟨k, c, e, z⟩
      · refine .inl ⟨k, ?_⟩
        have : y ≠ x := fun e => hj (nodup_ix hN e1 (e ▸ hi))
        simp [this, e]
      · exact .inr ⟨k, c, e, z.sameBut hs (cne y c e)⟩
  · obtain ⟨w', z⟩ := I.cell y c e
    exact ⟨w', z.sameBut hs (cne y c e)⟩
  · obtain ⟨e, n, ne, nf, d⟩ := I.pin p hp
    exact ⟨(hs.2 p.1 ne).trans e, n, ne, nf, d⟩
  · refine (I.hok b ob e).stay (fun c w' hc q => (hs.2 c ?_).trans q) (fun _ q => q) fun _ _ q => q
    rintro rfl
    rcases hc with rfl | hc
    · rw [I.free] at e; cases e
    · rw [I.free] at hc; cases hc
theorem un_exc {fs : List Addr} {H H' : Hp} {h h2 : Heap} {a : Addr} {o : HO} (u : Un fs [] H H' h h2) (na : h.get? a = none) (ua : H a = none) : Un fs [] H (upd H' a o) h h2 := by
  have ne : ∀ b o, h.get? b = some o → b ≠ a := fun b o e z => by rw [z, na] at e; cases e
  refine ⟨u.keep, u.slot, fun b o' e n hx => ?_, u.there, fun b xs e => ?_, fun b o' v e => ?_, fun b ps e => ?_⟩
  · rw [upd_ne (ne b o' e)]; exact u.free b o' e n hx
  · rw [upd_ne (ne_of_none e ua)]; exact u.tups b xs e
  · rw [upd_ne (ne_of_none e ua)]; exact u.frzs b o' v e
  · rw [upd_ne (ne_of_none e ua)]; exact u.tbls b ps e
theorem hok_exc {P : Program} {w : World} {H : Hp} {h : Heap} {a C T : Addr} (x : HOk P w H h) (ua : H a = none) (y : XAt h a (.ref C) T) : HOk P w (upd H a (excO a C)) h := fun b u e => by
  by_cases hb : b = a
  · subst hb; rw [upd_same] at e; cases e
    obtain ⟨oe, vs, _, _, _, he, hc, hd, _⟩ := y
    refine ⟨⟨oe, vs, he, hc.1, hd⟩, ⟨oe, he⟩, fun h1 h2 ⟨o, vs, z1, z2, z3⟩ k => ⟨o, vs, k o z1, z2, z3⟩⟩
  · rw [upd_ne hb] at e
    exact (x b u e).stay (fun c v _ q => q) (fun c q => by rw [upd_ne (ne_of_none q ua)]; exact q) fun c xs q => by rw [upd_ne (ne_of_none q ua)]; exact q
end
section
variable {X : Cx} {e : Expr} {t : EK3 → TE3} {pos : Pos}
theorem sx_expr {p1 : Pos} (h : PEX3 X e t) (hs : swapsWith e none p1.line X.env = pure false := by rfl) : PSX3 X (.Expr e p1) (sxE t) := by
  intro pins s σ H D E I ⟨σ3, H3, D3, E3, sr, hr3, q, kk, kx⟩
  refine wpAny_Expr_any (wpAny_mono (h pins s σ H (fun _ H1 => D.nx σ H1) E I ⟨σ3, H3, fun _ H1 => D3.nx σ3 H1, E3, sr, hr3, q, fun d v H3' H' tk hr _ z => kk.nx _ _ _ _ tk (sr.mono tk) hr z, kx⟩) (fun v s1 ⟨x, H1, I1, _, q1⟩ => ⟨σ, H1, I1, q1⟩) fun _ _ z => z) I.quiet hs
end
theorem s3_tryA {X : Cx} {b1 : Stmt} {t : EK3 → TS3} {cs : List Str} {th : TS3} {cx n : Str} (i : Nat) {b0 : Stmt} {suite : List Stmt} {np hp pos : Pos} (hN : X.N.Nodup) (he : PSX3 X b1 t) (hsub : ∀ c ∈ cs, SubX X.K c cx)
    (hb : ∀ A', PSs3 (inSuite X A') (b0 :: suite) th) (hi : X.N[i]? = some n := by rfl) (hloc : X.env.scope.names.lookup n = some .local := by rfl) (hst : X.stack = X.env :: X.outer := by rfl) (hfm : X.env.frame = some X.env.locals := by rfl) (hg : Gl X cx := by rfl) (hdb : (cx == ("__debug__" : Str)) = false := by decide) :
    PS3 X (.Try [b1] [.ExceptHandler (some (.Name cx np)) (some n) (b0 :: suite) hp] [] [] pos) (trA3 t cs i th) := by
  intro pins s σ H D I ⟨σ3, H3, D3, sr, hr3, q, kk⟩
  have hkl : X.env.kindOf n = some .local := hloc
  refine wpAny_Try_except ?_
  have hx := he pins s σ H D (fun v _ H1 => ∃ c H3', c ∈ cs ∧ PySem.W.nsIn X.K mainGlobals c = some (some v) ∧ TK H H1 ∧ HR X.K H3' H1 ∧ ∀ a, H3' a = none → th (gone i D3) (σ3.set i (some (.ref a))) (upd3 H3' a (.exc c))) I
    ⟨σ3, H3, D3, _, sr, hr3, q, kk, fun c C H3' H' tk hr hC z => ⟨c, H3', z.1, hC, tk, hr, z.2⟩⟩
  refine wpAny_execs_cons (wpAny_mono hx (fun f s1 hf => ?_) (fun x s' ⟨H1, s1, I1, z⟩ => ?_))
  · cases f with
    | next => exact wpAny_execs_nil (wpAny_execs_nil hf)
    | _ => exact hf
  obtain ⟨a, T, C, H', rfl, os, bare, un, hok, na, nT, ua, uT, x, c, H3', hcs, hC, tk, hr', qth⟩ := z
  have I' : L2.Inv X pins σ H' s' := I1.call' os un hok bare (fun b z => by cases z)
  have hfr : X.A.frames = some (X.env :: X.outer) := by rw [← hst]; exact I'.ok.frames
  have hl : s'.heap.FunFrames X.base (X.env :: X.outer) := by rw [← hst]; exact I'.stack
  have stf : ∀ b ∈ frs (X.env :: X.outer), H' b = none := fun b hb => I'.stkFree b (by rw [hst]; exact hb)
  rw [hst] at un
  have up : ∀ b, s'.heap.get? b = none → s1.heap.get? b = none := fun b q => by
    cases z : s1.heap.get? b with
    | none => rfl
    | some o => obtain ⟨o', r⟩ := un.there b o z (by simp); rw [q] at r; cases r
  refine note_land hfr hfm hl x fun h2 T2 k1 k2 x2 nT2 => ?_
  have un2 := un_more un na nT k1 k2
  have hok2 := hok_more hok ua uT stf k1
  have nT2' : s1.heap.get? T2 = none ∧ H' T2 = none := by
    rcases nT2 with z | z
    · exact ⟨up _ z, hok_none hok z⟩
    · subst z; exact ⟨nT, uT⟩
  have I2 : L2.Inv X pins σ H' { s' with heap := h2 } := I1.call' (s' := { s' with heap := h2 }) os (by rw [hst]; exact un2) hok2 bare (fun b z => by cases z)
  obtain ⟨C', Cx, hC', hCx, m1, m2, m3⟩ := hsub c hcs
  have eC : C' = C := by rw [hC] at hC'; cases hC'; rfl
  subst eC
  refine wpAny_handleBy_cons (codeAny_handlers_test (Calls.Name_function_global I2.ok.kind hg (Calls.loadGlobal_global (by rw [I2.ok.glob]; exact I2.mod.glob.keeps I2.bk) (PySem.W.mg_of I2.mod.kin I2.mod.glob hCx) ?_) hdb)) (by intro q; cases q)
  have x2' := x2
  obtain ⟨oe, _, _, _, _, hoe, hcl, _⟩ := x2'
  refine exc_matches I2.kIn hoe hcl.1 m1 m2 m3 ?_
  refine codeAny_handlers_suite_as (land_again (s := { s' with heap := h2 }) x2 fun h3 k3 x3 => ?_)
  have k3' : ∀ b o, b ≠ a → b ≠ T2 → b ∉ frs (X.env :: X.outer) → h2.get? b = some o → h3.get? b = some o := fun b o _ n2 _ q => k3 b o n2 q
  have un3 := un_more un2 na nT2'.1 k3' (fun b o hb q => ⟨o.slots, k3 b o (fun z => by
    obtain ⟨_, o', ho', hnf⟩ := hl.mem hb
    obtain ⟨sl, ho2⟩ := k2 b o' hb ho'
    obtain ⟨_, _, oT, ts, _, _, _, _, _, _, hT, hdT, _⟩ := x2
    rw [z, hT] at ho2; cases ho2
    exact hnf _ hdT) q⟩)
  have hok3 := hok_more hok2 ua nT2'.2 stf k3'
  have I3 : L2.Inv X pins σ (upd H' a (excO a C')) { s' with heap := h3 } := I1.call' (s' := { s' with heap := h3 }) os (by rw [hst]; exact un_exc un3 na (hok_none I1.hok na)) (hok_exc hok3 ua x3) bare (fun b z => by cases z)
  have tk2 : TK H (upd H' a (excO a C')) := tk.trans (TK.fresh ua)
  have n3 : H3' a = none := hr'.fresh ua
  have hr4 : HR X.K (upd3 H3' a (.exc c)) (upd H' a (excO a C')) := hr'.set (o3 := .exc c) (TK.fresh ua) ⟨C', hC, upd_same⟩
  have hiσ : i < σ.length := by rw [I.len]; exact (List.getElem?_eq_some_iff.mp hi).1
  refine store_ok I3 hN hi (.inl hloc) (v := .ref a) rfl (fun s4 I4 => ?_) (.inr hloc)
  refine wpAny_mono (hb (X.A.mark (some (.ref a))) pins _ _ _ { nx := fun σ' H' => D.nx (σ'.set i none) H', rt := D.rt, bk := fun σ' H' => D.bk (σ'.set i none) H', ct := fun σ' H' => D.ct (σ'.set i none) H' } (inv_mark I4 rfl)
    ⟨σ3.set i (some (.ref a)), upd3 H3' a (.exc c), gone i D3, (sr.mono tk2).set i (.ref a), hr4, qth a n3, ?_⟩) (fun f s5 hf => ?_) fun _ _ z => False.elim z
  · exact ⟨fun σ3' σ' H3' H' tk' sr' hr' z => kk.nx _ _ _ _ (tk2.trans tk') (sr'.setN i) hr' z, kk.rt.mono tk2, fun σ3' σ' H3' H' tk' sr' hr' z => kk.bk _ _ _ _ (tk2.trans tk') (sr'.setN i) hr' z, fun σ3' σ' H3' H' tk' sr' hr' z => kk.ct _ _ _ _ (tk2.trans tk') (sr'.setN i) hr' z⟩
  · have hf' := sp_unmark I3.ok hf
    cases f with
    | next => obtain ⟨σ', H'', I5, q5⟩ := hf'; exact inv_forget I5 hN hi hkl fun s6 I6 => ⟨_, H'', I6, q5⟩
    | brk => obtain ⟨σ', H'', I5, q5⟩ := hf'; exact inv_forget I5 hN hi hkl fun s6 I6 => ⟨_, H'', I6, q5⟩
    | cont => obtain ⟨σ', H'', I5, q5⟩ := hf'; exact inv_forget I5 hN hi hkl fun s6 I6 => ⟨_, H'', I6, q5⟩
    | ret u => obtain ⟨v, σ', H'', I5, r5, q5⟩ := hf'; exact inv_forget I5 hN hi hkl fun s6 I6 => ⟨v, _, H'', I6, r5, q5⟩
end L3

namespace L3
open PySem PySem.Spec PyProof.Rows L2
/-! ### pure parts: what a dict holds at a key; its length -/
def dgk (x y : D) (H : Hp3) (Q : VK3) : Prop := match x, y with
  | .ref a, .tup ds => (match keysOf ds, H a with
    | some k, some (.dic kvs) => (match dlook kvs k with
      | some d => Q d H
      | none => False)
    | _, _ => False)
  | _, _ => False
def dg3 (ta tb : TE3) : TE3 := fun σ H Q => ta σ H fun x H1 => tb σ H1 fun y H2 => dgk x y H2 Q
section
variable {H : Hp3} {Q : VK3} {σ : St3} {a : Addr} {p1 p2 : Int} {d : D} {kvs : List (Pt × D)} {ta tb : TE3}
theorem g_dg (h : ta σ H fun x H1 => tb σ H1 fun y H2 => dgk x y H2 Q) : dg3 ta tb σ H Q := h
end
end L3

namespace L3
open PySem PySem.Spec PyProof.Rows L2
section
variable {X : Cx} {o i : Expr} {ta tb : TE3} {pos : Pos}
end
end L3


namespace Law
open PySem PySem.Spec PyProof.Rows L2 L3
set_option maxHeartbeats 8000000
abbrev N_common_measure : List Str := ["one", "other", "rest"]
abbrev P_common_measure : List Str := ["one", "other"]
abbrev N_levelled : List Str := ["one", "other", "times", "rest"]
abbrev P_levelled : List Str := ["one", "other"]
abbrev N_grid_of : List Str := ["shifts", "east", "north", "shift", "pair"]
abbrev P_grid_of : List Str := ["shifts"]
abbrev N_l_cell_at : List Str := ["_law_script", "_law_k"]
abbrev P_l_cell_at : List Str := ["_law_script", "_law_k"]
abbrev N_l_whole : List Str := ["_law_found"]
abbrev P_l_whole : List Str := ["_law_found"]
abbrev N_l_numbers_of : List Str := ["_law_grid", "_law_shift", "_law_j"]
abbrev P_l_numbers_of : List Str := ["_law_grid", "_law_shift"]
abbrev N_l_divisor : List Str := ["_law_one", "_law_other"]
abbrev P_l_divisor : List Str := ["_law_one", "_law_other"]
abbrev N_l_grid_of : List Str := ["_law_found", "_law_shifts", "_law_count", "_law_a", "_law_b", "_law_d"]
abbrev P_l_grid_of : List Str := ["_law_found", "_law_shifts", "_law_count"]
abbrev N_l_kinds : List Str := ["_law_e", "_law_told", "_law_names"]
abbrev P_l_kinds : List Str := ["_law_e"]
abbrev N_l_refused : List Str := ["_law_shifts", "_law_caught", "_law_e"]
abbrev P_l_refused : List Str := ["_law_shifts"]
abbrev N_l_right : List Str := ["_law_shifts", "_law_count"]
abbrev P_l_right : List Str := ["_law_shifts", "_law_count"]
abbrev N_law : List Str := ["_law_script", "_law_kind", "_law_wide", "_law_line", "_law_times", "_law_shifts", "_law_more", "_law_part", "_law_many"]
abbrev P_law : List Str := ["_law_script"]
/-! one step of a reading; "l3h": what stands in the heap; "l3a": a side's arithmetic; "l3c": a call by its specification; "l3": as far as it goes -/
local macro_rules | `(tactic| walk_at "l3h") => `(tactic| first
  | with_reducible exact upd3_same
  | assumption
  | exact upd3_old (by walk_at "l3h") (by assumption))
local macro_rules | `(tactic| walk_at "l3a") => `(tactic| first
  | with_reducible assumption
  | decide
  | omega
  | exact ⟨by decide, by decide⟩
  | exact Or.inl ⟨by decide, by decide⟩
  | exact Or.inr ⟨by decide, by decide⟩
  | exact ⟨by decide, by decide, by decide⟩
  | exact Or.inl ⟨by omega, by omega⟩
  | exact Or.inr ⟨by omega, by omega⟩
  | exact ⟨by omega, by omega⟩)
/-! "l3b": bits of a number; "l3w": a factor or divisor of some bits -/
local macro_rules | `(tactic| walk_at "l3b") => `(tactic| first
  | with_reducible assumption
  | ((with_reducible show Bt _ (_ + _)); exact Bt.add (by walk_at "l3b") (by walk_at "l3b"))
  | ((with_reducible show Bt _ (_ - _)); exact Bt.sub (by walk_at "l3b") (by walk_at "l3b"))
  | ((with_reducible show Bt _ (_ * _)); exact Bt.mul (by walk_at "l3b") (by walk_at "l3b"))
  | ((with_reducible show Bt _ (-_)); exact Bt.neg (by walk_at "l3b"))
  | ((with_reducible show Bt _ (_ / _)); exact Bt.div (by walk_at "l3b"))
  | exact Bt.lit (n := 64) (by decide)
  | exact Bt.lit (n := 256) (by decide))
local macro_rules | `(tactic| walk_at "l3w") => `(tactic| first
  | ((with_reducible show CDivW _ _); exact And.intro (by walk_at "l3a") (Bt.mono (by walk_at "l3b") (by decide)))
  | exact Or.inl (by walk_at "l3a")
  | exact CMulW.of (by walk_at "l3b") (by walk_at "l3b") (by decide))
local macro_rules | `(tactic| walk_at "l3s") => `(tactic| first
  | with_reducible refine g_sq ?_
  | ((with_reducible show v3 _ _ _ _); refine g_v3 rfl ?_)
  | with_reducible refine g_c3 ?_
  | with_reducible refine g_o3 ?_
  | with_reducible refine g_st ?_
  | ((with_reducible refine g_gone ?_); (try dsimp only [List.set_cons_zero, List.set_cons_succ]))
  | with_reducible refine g_goneR ?_
  | ((fail_if_success (with_reducible show Ends3.nx (fin3 _) _ _)); (with_reducible refine g_nx ?_); (try dsimp only [List.set_cons_zero, List.set_cons_succ]))
  | with_reducible refine g_cb ?_
  | with_reducible refine g_cons ?_
  | with_reducible refine g_nil ?_
  | with_reducible refine g_is ?_
  | with_reducible refine g_ts ?_
  | with_reducible refine g_bt ?_
  | with_reducible refine g_rt3 ?_
  | ((fail_if_success (with_reducible show Ends3.rt (fin3 _) _ _)); with_reducible refine g_rt ?_)
  | with_reducible refine g_tp ?_
  | ((with_reducible show List.length _ ≤ 1000 ∧ _); refine g_and rfl ?_)
  | with_reducible refine g_add ?_
  | with_reducible refine g_sub ?_
  | with_reducible refine g_eqI ?_
  | with_reducible refine g_neI ?_
  | with_reducible refine g_eqP ?_
  | with_reducible refine g_neP ?_
  | with_reducible refine g_eqT3 ?_
  | with_reducible refine g_neT3 ?_
  | with_reducible refine g_le ?_
  | with_reducible refine g_lt ?_
  | with_reducible refine g_gt ?_
  | with_reducible refine g_ge ?_
  | with_reducible refine g_ltT ?_
  | with_reducible refine g_neg ?_
  | with_reducible refine g_u3 ?_
  | ((with_reducible show i3mul _ _ _ _); refine g_mul (by walk_at "l3a") ?_)
  | ((with_reducible show i3div _ _ _ _); refine g_div (by walk_at "l3a") ?_)
  | ((with_reducible show i3mulW _ _ _ _); refine g_mulW (by walk_at "l3w") ?_)
  | ((with_reducible show i3divW _ _ _ _); refine g_divW (by walk_at "l3w") ?_)
  | ((with_reducible show i3mod _ _ _ _); refine g_mod (by walk_at "l3a") ?_)
  | ((with_reducible show i3pow _ _ _ _); refine g_pow (by walk_at "l3a") ?_)
  | ((with_reducible show r3ix (D.tup _) (D.int _) _ _); refine g_ixT rfl ?_)
  | with_reducible refine g_an ?_
  | with_reducible refine g_or ?_
  | with_reducible refine g_no ?_
  | with_reducible refine g_av ?_
  | with_reducible refine g_avk ?_
  | with_reducible refine g_ov ?_
  | with_reducible refine g_ovk ?_
  | with_reducible refine g_nv ?_
  | with_reducible refine g_nvk ?_
  | with_reducible refine g_if3 ?_
  | with_reducible refine g_isN ?_
  | with_reducible refine g_notN ?_
  | with_reducible refine g_ls ?_
  | with_reducible refine g_lenT ?_
  | with_reducible refine g_lenF ?_
  | ((with_reducible show r3len [D.ref _] _ _); refine g_lenL (by walk_at "l3h") ?_)
  | with_reducible refine g_tupT ?_
  | ((with_reducible show r3tuple [D.ref _] _ _); refine g_tupL (by walk_at "l3h") ?_)
  | with_reducible refine g_listT ?_
  | ((with_reducible show r3list [D.ref _] _ _); refine g_listL (by walk_at "l3h") ?_)
  | with_reducible refine g_sl ?_
  | with_reducible refine g_np ?_
  | with_reducible refine g_pt ?_
  | with_reducible refine g_ptk ?_
  | with_reducible refine g_slF ?_
  | ((with_reducible show r3sl (D.ref _) _ _ _ _); refine g_slL (by walk_at "l3h") ?_)
  | with_reducible refine g_nx3 ?_
  | with_reducible refine g_br3 ?_
  | with_reducible refine g_co3 ?_
  | with_reducible refine g_dr ?_
  | with_reducible refine g_rn3 ?_
  | with_reducible refine g_as ?_
  | ((with_reducible refine g_gn ?_); (try dsimp only [List.set_cons_zero, List.set_cons_succ]))
  | ((with_reducible refine g_g2 ?_); (try dsimp only [List.set_cons_zero, List.set_cons_succ]))
  | ((with_reducible refine g_g3 ?_); (try dsimp only [List.set_cons_zero, List.set_cons_succ]))
  | with_reducible refine g_bk ?_
  | with_reducible refine g_ct ?_
  | with_reducible refine g_fo ?_
  | with_reducible refine g_ir1 ?_
  | with_reducible refine g_ir2 ?_
  | with_reducible refine g_rg1 ?_
  | with_reducible refine g_rg2 ?_
  | with_reducible refine g_il ?_
  | ((with_reducible show ilk (D.ref _) _ _); refine g_ilR (by walk_at "l3h") ?_)
  | with_reducible refine g_ilF ?_
  | with_reducible refine g_it ?_
  | with_reducible refine g_itT ?_
  | ((with_reducible show au3 _ _ _ _ _ _); refine g_au rfl ?_)
  | with_reducible refine g_iadd ?_
  | with_reducible refine g_isub ?_
  | with_reducible refine g_max2 ?_
  | with_reducible refine g_ikd ?_
  | with_reducible refine g_irv ?_
  | with_reducible refine g_kd ?_
  | ((with_reducible show r3ix (D.ktup _) (D.int _) _ _); refine g_ixK rfl ?_)
  | with_reducible refine g_pr ?_
  | with_reducible refine g_rvl ?_
  | ((with_reducible show rvk (D.ref _) _ _); refine g_rvk (by walk_at "l3h") ?_)
  | with_reducible refine g_izp ?_
  | with_reducible refine g_ien ?_
  | ((with_reducible show enk (D.ref _) _ _); refine g_enk (by walk_at "l3h") ?_)
  | with_reducible refine g_intB ?_
  | with_reducible refine g_cbE ?_
  | with_reducible refine g_rz ?_
  | with_reducible refine g_try ?_
  | with_reducible refine g_isx3 ?_
  | ((with_reducible show isxk _ (D.ref _) _ _); refine g_isxk (by walk_at "l3h") rfl ?_)
  | with_reducible refine g_trA ?_
  | with_reducible refine g_sxE ?_
  | with_reducible refine g_sxS ?_
  | with_reducible refine g_fd ?_
  | ((with_reducible show r3fld _ _ (D.ref _) _ _); refine g_fld (by walk_at "l3h") (by decide) rfl ?_)
  | with_reducible refine g_sfa ?_
  | ((with_reducible show r3sf _ _ _ (D.ref _) _ _); refine g_sf (by walk_at "l3h") (by decide) (by decide) ?_)
  | with_reducible refine g_me ?_
  | ((with_reducible show r3meth _ _ (D.ref _) _ _); refine g_meth (by walk_at "l3h") rfl rfl ?_)
  | with_reducible refine g_mk ?_
  | with_reducible refine g_izt ?_
  | with_reducible refine g_itz ?_
  | with_reducible refine g_mz ?_
  | with_reducible refine g_mzk ?_
  | with_reducible refine g_iz ?_
  | with_reducible refine g_izS ?_
  | with_reducible refine g_m3 ?_
  | ((with_reducible show mtk _ _ _ (D.ref _) _ _); refine g_mtk (by walk_at "l3h") ?_)
  | with_reducible refine g_dg ?_
  | with_reducible refine g_dp ?_
  | with_reducible refine g_dn ?_
  | with_reducible refine g_dd ?_
  | with_reducible refine g_so ?_
  | with_reducible refine g_eqB ?_
  | with_reducible refine g_cp ?_
  | with_reducible refine g_yes ?_
  | ((with_reducible show r3isi [_, D.ty _] _ _); refine g_isi rfl (by simp [kinds]) ?_)
  | walk_at "l3c")
local macro_rules | `(tactic| walk_at "l3") => `(tactic| repeat walk_at "l3s")
def GrOk (a b d : Int) : Prop := 0 < a ∧ 0 ≤ b ∧ b < a ∧ 0 < d ∧ Bt 4000 a ∧ Bt 4000 d
theorem GrOk.bb {a b d : Int} (h : GrOk a b d) : Bt 4000 b := by
  obtain ⟨h1, h2, h3, h4, h5, h6⟩ := h
  exact h5.of_le (by omega)
def wsJ (d y : Int) : Int := y / d
def wsI (a b d x y : Int) : Int := (x - y / d * b) / a
theorem wsI_bt {a b d x y : Int} (hg : GrOk a b d) (hi : Bt 20000 x) (hj : Bt 20000 y) : Bt 30000 (wsI a b d x y) := by
  have hb := hg.bb
  unfold wsI
  exact Bt.mono (Bt.div (Bt.sub hi (Bt.mul (Bt.div hj) hb))) (by decide)
theorem wsJ_bt {d y : Int} (hj : Bt 20000 y) : Bt 20000 (wsJ d y) := Bt.div hj
def rsX (a b d x y : Int) : Int := (x - y / d * b) % a
def rsY (d y : Int) : Int := y % d
theorem rsX_eq (a b d x y : Int) : x - (wsI a b d x y * a + wsJ d y * b) = rsX a b d x y := by
  unfold rsX wsI wsJ
  have := Int.mul_ediv_add_emod (x - y / d * b) a
  rw [Int.mul_comm ((x - y / d * b) / a) a]
  omega
theorem rsY_eq (d y : Int) : y - wsJ d y * d = rsY d y := by
  unfold rsY wsJ
  have := Int.mul_ediv_add_emod y d
  rw [Int.mul_comm (y / d) d]
  omega
theorem ws_of {a b d i j : Int} (hg : GrOk a b d) : rsX a b d (i * a + j * b) (j * d) = 0 ∧ rsY d (j * d) = 0 ∧ wsI a b d (i * a + j * b) (j * d) = i ∧ wsJ d (j * d) = j := by
  obtain ⟨h1, h2, h3, h4, h5, h6⟩ := hg
  have e1 : j * d / d = j := Int.mul_ediv_cancel j (by omega)
  have e2 : i * a + j * b - j * b = i * a := by omega
  unfold rsX rsY wsI wsJ
  rw [e1, e2]
  exact ⟨Int.mul_emod_left i a, Int.mul_emod_left j d, Int.mul_ediv_cancel i (by omega), rfl⟩
theorem rs_zero {a b d x y : Int} (hg : GrOk a b d) : (rsX a b d x y = 0 ∧ rsY d y = 0) ↔ ∃ i j, x = i * a + j * b ∧ y = j * d := by
  constructor
  · intro h
    refine ⟨wsI a b d x y, wsJ d y, ?_, ?_⟩
    · have := rsX_eq a b d x y; omega
    · have := rsY_eq d y; omega
  · rintro ⟨i, j, rfl, rfl⟩
    have := ws_of (i := i) (j := j) hg
    exact ⟨this.1, this.2.1⟩
theorem rs_eq {a b d x y x' y' : Int} (hg : GrOk a b d) : (rsX a b d x y = rsX a b d x' y' ∧ rsY d y = rsY d y') ↔ ∃ i j, x' - x = i * a + j * b ∧ y' - y = j * d := by
  constructor
  · rintro ⟨h1, h2⟩
    rw [← rsX_eq, ← rsX_eq] at h1
    rw [← rsY_eq, ← rsY_eq] at h2
    refine ⟨wsI a b d x' y' - wsI a b d x y, wsJ d y' - wsJ d y, ?_, ?_⟩
    · rw [Int.sub_mul, Int.sub_mul]; omega
    · rw [Int.sub_mul]; omega
  · rintro ⟨i, j, h1, h2⟩
    obtain ⟨g1, g2, g3, g4, g5, g6⟩ := hg
    obtain rfl : x' = x + (i * a + j * b) := by omega
    obtain rfl : y' = y + j * d := by omega
    unfold rsX rsY
    have e1 : (y + j * d) / d = y / d + j := Int.add_mul_ediv_right y j (by omega)
    refine ⟨?_, ?_⟩
    · rw [e1, Int.add_mul, show x + (i * a + j * b) - (y / d * b + j * b) = x - y / d * b + i * a from by omega, Int.add_mul_emod_self_right]
    · rw [Int.add_mul_emod_self_right]
theorem rs_lo {a b d x y : Int} (hg : GrOk a b d) : 0 ≤ rsX a b d x y ∧ rsX a b d x y < a ∧ 0 ≤ rsY d y ∧ rsY d y < d := by
  obtain ⟨h1, h2, h3, h4, h5, h6⟩ := hg
  exact ⟨Int.emod_nonneg _ (by omega), Int.emod_lt_of_pos _ h1, Int.emod_nonneg _ (by omega), Int.emod_lt_of_pos _ h4⟩
theorem rs_rs {a b d x y : Int} (hg : GrOk a b d) : rsX a b d (rsX a b d x y) (rsY d y) = rsX a b d x y ∧ rsY d (rsY d y) = rsY d y := by
  obtain ⟨l1, l2, l3, l4⟩ := rs_lo (x := x) (y := y) hg
  have e : rsY d y / d = 0 := Int.ediv_eq_zero_of_lt l3 l4
  constructor
  · show (rsX a b d x y - rsY d y / d * b) % a = rsX a b d x y
    rw [e, Int.zero_mul, Int.sub_zero]
    exact Int.emod_eq_of_lt l1 l2
  · exact Int.emod_eq_of_lt l3 l4
def In2 (p q v : Pt) : Prop := ∃ i j : Int, v.1 = i * p.1 + j * q.1 ∧ v.2 = i * p.2 + j * q.2
structure Grp (G : Pt → Prop) : Prop where
  zero : G (0, 0)
  sub : ∀ p q, G p → G q → G (p.1 - q.1, p.2 - q.2)
section
variable {G : Pt → Prop} {p q u v w : Pt} {i j : Int}
theorem Grp.neg (h : Grp G) (hp : G p) : G (-p.1, -p.2) := by
  have := h.sub _ _ h.zero hp
  rw [Int.zero_sub, Int.zero_sub] at this; exact this
theorem Grp.add (h : Grp G) (hp : G p) (hq : G q) : G (p.1 + q.1, p.2 + q.2) := by
  have := h.sub _ _ hp (h.neg hq)
  rw [Int.sub_neg, Int.sub_neg] at this; exact this
theorem Grp.mulN (h : Grp G) (hp : G p) : ∀ n : Nat, G ((n : Int) * p.1, (n : Int) * p.2)
  | 0 => by
    have : (((0 : Nat) : Int) * p.1, ((0 : Nat) : Int) * p.2) = ((0 : Int), (0 : Int)) := by simp
    rw [this]; exact h.zero
  | n + 1 => by
    have := h.add (h.mulN hp n) hp
    have e : (((n + 1 : Nat) : Int) * p.1, ((n + 1 : Nat) : Int) * p.2) = ((n : Int) * p.1 + p.1, (n : Int) * p.2 + p.2) := by
      rw [Int.natCast_add, Int.add_mul, Int.add_mul]; simp
    rw [e]; exact this
theorem Grp.mul (h : Grp G) (hp : G p) (i : Int) : G (i * p.1, i * p.2) := by
  rcases Int.eq_nat_or_neg i with ⟨n, rfl | rfl⟩
  · exact h.mulN hp n
  · have := h.neg (h.mulN hp n)
    rw [Int.neg_mul, Int.neg_mul]; exact this
theorem Grp.lin (h : Grp G) (hp : G p) (hq : G q) (hv : In2 p q v) : G v := by
  obtain ⟨i, j, h1, h2⟩ := hv
  have := h.add (h.mul hp i) (h.mul hq j)
  have e : v = (i * p.1 + j * q.1, i * p.2 + j * q.2) := Prod.ext h1 h2
  rw [e]; exact this
theorem In2.grp (p q : Pt) : Grp (In2 p q) where
  zero := ⟨0, 0, by simp, by simp⟩
  sub := by
    rintro u v ⟨i, j, h1, h2⟩ ⟨k, l, h3, h4⟩
    refine ⟨i - k, j - l, ?_, ?_⟩
    · show u.1 - v.1 = _; rw [h1, h3, Int.sub_mul, Int.sub_mul]; omega
    · show u.2 - v.2 = _; rw [h2, h4, Int.sub_mul, Int.sub_mul]; omega
theorem In2.left (p q : Pt) : In2 p q p := ⟨1, 0, by simp, by simp⟩
theorem In2.right (p q : Pt) : In2 p q q := ⟨0, 1, by simp, by simp⟩
theorem In2.trans (hu : In2 p q u) (hv : In2 p q v) (h : In2 u v w) : In2 p q w := (In2.grp p q).lin hu hv h
theorem Pt.eta (p : Pt) : (p.1, p.2) = p := rfl
end
/-! Euclid, with the floor of Python -/
theorem fmod_ab {a b : Int} (hb : b ≠ 0) : (a.fmod b).natAbs < b.natAbs := by
  rcases Int.lt_or_gt_of_ne hb with h | h
  · have e := Int.neg_fmod_neg a b
    have h1 := Int.fmod_nonneg_of_pos (-a) (b := -b) (by omega)
    have h2 := Int.fmod_lt_of_pos (-a) (b := -b) (by omega)
    omega
  · have h1 := Int.fmod_nonneg_of_pos a (b := b) h
    have h2 := Int.fmod_lt_of_pos a (b := b) h
    omega
/-- of one sign, the second one less -/
def Reg (a b : Int) : Prop := (0 ≤ b ∧ b < a) ∨ (b ≤ 0 ∧ a < b)
theorem fmod_reg {a b : Int} (hb : b ≠ 0) : Reg b (a.fmod b) := by
  rcases Int.lt_or_gt_of_ne hb with h | h
  · have e := Int.neg_fmod_neg a b
    have h1 := Int.fmod_nonneg_of_pos (-a) (b := -b) (by omega)
    have h2 := Int.fmod_lt_of_pos (-a) (b := -b) (by omega)
    exact .inr ⟨by omega, by omega⟩
  · exact .inl ⟨Int.fmod_nonneg_of_pos a h, Int.fmod_lt_of_pos a h⟩
theorem fmod_posn {a b : Int} (h0 : 0 < b) (h1 : b < a) : a.fmod b + b ≤ a := by
  have e := Int.mul_fdiv_add_fmod a b
  have h2 := Int.fmod_lt_of_pos a (b := b) h0
  have h3 : 1 ≤ a.fdiv b := by
    rcases Int.lt_or_le (a.fdiv b) 1 with z | z
    · have : b * a.fdiv b ≤ b * 0 := Int.mul_le_mul_of_nonneg_left (by omega) (by omega)
      omega
    · exact z
  have : b * 1 ≤ b * a.fdiv b := Int.mul_le_mul_of_nonneg_left h3 (by omega)
  omega
theorem fmod_half {a b : Int} (hb : b ≠ 0) (h : Reg a b) : 2 * (a.fmod b).natAbs ≤ a.natAbs := by
  rcases h with ⟨h0, h1⟩ | ⟨h0, h1⟩
  · have := fmod_posn (a := a) (b := b) (by omega) h1
    have h2 := Int.fmod_lt_of_pos a (b := b) (by omega)
    have h3 := Int.fmod_nonneg_of_pos a (b := b) (by omega)
    omega
  · have e := Int.neg_fmod_neg a b
    have := fmod_posn (a := -a) (b := -b) (by omega) (by omega)
    have h2 := Int.fmod_lt_of_pos (-a) (b := -b) (by omega)
    have h3 := Int.fmod_nonneg_of_pos (-a) (b := -b) (by omega)
    omega
theorem Bt.fdiv {m : Nat} {i j : Int} (h : Bt m i) : Bt m (i.fdiv j) := h.of_le (Int.natAbs_fdiv_le_natAbs i j)
/-- what is taken of one pair from the other -/
def tkn (p q : Pt) : Pt := (p.1 - p.2.fdiv q.2 * q.1, p.2 - p.2.fdiv q.2 * q.2)
theorem tkn_snd (p q : Pt) : (tkn p q).2 = p.2.fmod q.2 := by
  have := Int.fmod_def p.2 q.2
  show p.2 - p.2.fdiv q.2 * q.2 = _
  rw [this, Int.mul_comm]
theorem tkn_grp {G : Pt → Prop} (g : Grp G) {p q : Pt} (hp : G p) (hq : G q) : G (tkn p q) := g.sub _ _ hp (g.mul hq _)
theorem tkn_in {p q v : Pt} (h : In2 p q v) : In2 q (tkn p q) v := by
  refine In2.trans ⟨p.2.fdiv q.2, 1, ?_, ?_⟩ (In2.left _ _) h
  · show p.1 = p.2.fdiv q.2 * q.1 + 1 * (p.1 - p.2.fdiv q.2 * q.1); omega
  · show p.2 = p.2.fdiv q.2 * q.2 + 1 * (p.2 - p.2.fdiv q.2 * q.2); omega
/-- a step of levelled: bits -/
structure Lev (N : Nat) (p0 q0 p q : Pt) : Prop where
  grp : ∀ G, Grp G → G p0 → G q0 → G p ∧ G q
  i1 : In2 p q p0
  i2 : In2 p q q0
  bp : Bt 400 p.2
  bq : Bt 400 q.2
  bits : (Bt N p.1 ∧ Bt N q.1) ∨ (Reg p.2 q.2 ∧ ∃ n, n ≤ 800 ∧ (p.2 * q.2).natAbs < 2 ^ n ∧ Bt (N + 402 * (802 - n)) p.1 ∧ Bt (N + 402 * (802 - n)) q.1)
theorem Lev.start {N : Nat} {p q : Pt} (bp : Bt 400 p.2) (bq : Bt 400 q.2) (h1 : Bt N p.1) (h2 : Bt N q.1) : Lev N p q p q :=
  ⟨fun _ _ a b => ⟨a, b⟩, In2.left _ _, In2.right _ _, bp, bq, .inl ⟨h1, h2⟩⟩
theorem Lev.step {N : Nat} {p0 q0 p q : Pt} (h : Lev N p0 q0 p q) (hq : q.2 ≠ 0) : Lev N p0 q0 q (tkn p q) ∧ (tkn p q).2.natAbs < q.2.natAbs := by
  have hs := tkn_snd p q
  have hab := fmod_ab (a := p.2) hq
  have bt : Bt 400 (p.2.fdiv q.2) := Bt.fdiv h.bp
  refine ⟨⟨fun G g a b => ⟨(h.grp G g a b).2, tkn_grp g (h.grp G g a b).1 (h.grp G g a b).2⟩, tkn_in h.i1, tkn_in h.i2, h.bq, h.bq.of_le (by rw [hs]; omega), .inr ⟨by rw [hs]; exact fmod_reg hq, ?_⟩⟩, by rw [hs]; exact hab⟩
  rcases h.bits with ⟨b1, b2⟩ | ⟨hr, n, hn, hm, b1, b2⟩
  · refine ⟨800, Nat.le_refl _, ?_, b2.mono (by omega), ?_⟩
    · have := Bt.mul h.bq (h.bq.of_le (i := (tkn p q).2) (by rw [hs]; omega)); exact this
    · exact (Bt.sub b1 (Bt.mul bt b2)).mono (by omega)
  · have hh := fmod_half hq hr
    have h0 : 0 < n := by
      rcases Nat.eq_zero_or_pos n with rfl | z
      · exfalso
        rw [Int.natAbs_mul] at hm
        have h1 : 0 < p.2.natAbs := by rcases hr with ⟨_, _⟩ | ⟨_, _⟩ <;> omega
        have h2 : 0 < q.2.natAbs := by omega
        have := Nat.mul_pos h1 h2
        simp only [Nat.pow_zero] at hm
        omega
      · exact z
    refine ⟨n - 1, by omega, ?_, b2.mono (by omega), ?_⟩
    · rw [Int.natAbs_mul] at hm ⊢
      rw [hs]
      have e : 2 ^ n = 2 * 2 ^ (n - 1) := by rw [← Nat.pow_succ']; congr 1; omega
      have h3 : q.2.natAbs * (2 * (p.2.fmod q.2).natAbs) ≤ q.2.natAbs * p.2.natAbs := Nat.mul_le_mul_left _ hh
      rw [Nat.mul_comm p.2.natAbs] at hm
      rw [Nat.mul_left_comm] at h3
      omega
    · exact (Bt.sub b1 (Bt.mul bt b2)).mono (by omega)
theorem Lev.grp_w {N : Nat} {p0 q0 p q : Pt} (h : Lev N p0 q0 p q) (hq : q.2 = 0) : ∀ G, Grp G → G p0 → G q0 → G p ∧ G (q.1, 0) := fun G g a b => by
  have := h.grp G g a b
  rw [show q = (q.1, 0) from Prod.ext rfl hq] at this
  exact this
theorem Lev.i1_w {N : Nat} {p0 q0 p q : Pt} (h : Lev N p0 q0 p q) (hq : q.2 = 0) : In2 p (q.1, 0) p0 := by
  have := h.i1
  rw [show q = (q.1, 0) from Prod.ext rfl hq] at this
  exact this
theorem Lev.i2_w {N : Nat} {p0 q0 p q : Pt} (h : Lev N p0 q0 p q) (hq : q.2 = 0) : In2 p (q.1, 0) q0 := by
  have := h.i2
  rw [show q = (q.1, 0) from Prod.ext rfl hq] at this
  exact this
theorem Lev.all {N : Nat} {p0 q0 p q : Pt} (h : Lev N p0 q0 p q) : Bt (N + 400000) p.1 ∧ Bt (N + 400000) q.1 := by
  rcases h.bits with ⟨b1, b2⟩ | ⟨hr, n, hn, hm, b1, b2⟩
  · exact ⟨b1.mono (by omega), b2.mono (by omega)⟩
  · exact ⟨b1.mono (by omega), b2.mono (by omega)⟩
/-! two grids of the same shifts are one -/
theorem grid_one {a b d a' b' d' : Int} (h1 : 0 < a) (h2 : 0 ≤ b) (h3 : b < a) (h4 : 0 < d) (g1 : 0 < a') (g2 : 0 ≤ b') (g3 : b' < a') (g4 : 0 < d')
    (p1 : In2 (a, 0) (b, d) (a', 0)) (p2 : In2 (a, 0) (b, d) (b', d')) (q1 : In2 (a', 0) (b', d') (a, 0)) (q2 : In2 (a', 0) (b', d') (b, d)) : a = a' ∧ b = b' ∧ d = d' := by
  have zero : ∀ {a b d a' : Int}, 0 < d → In2 (a, 0) (b, d) (a', 0) → a ∣ a' := by
    rintro a b d a' hd ⟨i, j, e1, e2⟩
    simp only [Int.mul_zero, Int.zero_add] at e2
    have : j = 0 := by
      rcases Int.mul_eq_zero.mp e2.symm with z | z
      · exact z
      · omega
    subst this
    simp only [Int.zero_mul, Int.add_zero] at e1
    exact ⟨i, by rw [e1, Int.mul_comm]⟩
  have ea : a = a' := Int.dvd_antisymm (by omega) (by omega) (zero h4 p1) (zero g4 q1)
  subst ea
  obtain ⟨i, j, e1, e2⟩ := p2
  obtain ⟨k, l, e3, e4⟩ := q2
  simp only [Int.mul_zero, Int.zero_add] at e1 e2 e3 e4
  have ed : d = d' := Int.dvd_antisymm (by omega) (by omega) ⟨j, by rw [e2, Int.mul_comm]⟩ ⟨l, by rw [e4, Int.mul_comm]⟩
  subst ed
  have hj : j = 1 := by
    have : j * d = 1 * d := by rw [← e2, Int.one_mul]
    exact Int.eq_of_mul_eq_mul_right (by omega) this
  subst hj
  refine ⟨rfl, ?_, rfl⟩
  rw [Int.one_mul] at e1
  have h0 : i = 0 := by
    rcases Int.lt_trichotomy i 0 with z | z | z
    · exfalso
      have : i * a ≤ -1 * a := Int.mul_le_mul_of_nonneg_right (by omega) (by omega)
      omega
    · exact z
    · exfalso
      have : 1 * a ≤ i * a := Int.mul_le_mul_of_nonneg_right (by omega) (by omega)
      omega
  subst h0
  omega
/-- multiplied across -/
def crs (p q : Pt) : Int := p.1 * q.2 - p.2 * q.1
theorem crs_in {p q u v : Pt} (hu : In2 p q u) (hv : In2 p q v) : ∃ k, crs u v = k * crs p q := by
  obtain ⟨i, j, h1, h2⟩ := hu
  obtain ⟨k, l, h3, h4⟩ := hv
  refine ⟨i * l - j * k, ?_⟩
  unfold crs
  rw [h1, h2, h3, h4]
  simp only [Int.add_mul, Int.mul_add, Int.sub_mul, Int.mul_sub]
  have e1 : i * p.1 * (k * p.2) = i * p.2 * (k * p.1) := by ac_rfl
  have e2 : j * q.1 * (l * q.2) = j * q.2 * (l * q.1) := by ac_rfl
  have e3 : i * p.1 * (l * q.2) = i * l * (p.1 * q.2) := by ac_rfl
  have e4 : j * q.1 * (k * p.2) = j * k * (p.2 * q.1) := by ac_rfl
  have e5 : i * p.2 * (l * q.1) = i * l * (p.2 * q.1) := by ac_rfl
  have e6 : j * q.2 * (k * p.1) = j * k * (p.1 * q.2) := by ac_rfl
  rw [e1, e2, e3, e4, e5, e6]
  omega

structure Ms (x y g : Int) : Prop where
  nn : 0 ≤ g
  grp : ∀ G, Grp G → G (x, 0) → G (y, 0) → G (g, 0)
  i1 : ∃ i, x = i * g
  i2 : ∃ j, y = j * g
theorem Ms.bt {x y g : Int} {m n : Nat} (h : Ms x y g) (hx : Bt m x) (hy : Bt n y) : Bt (max m n) g := by
  have le : ∀ {z : Int}, z ≠ 0 → (∃ i, z = i * g) → g.natAbs ≤ z.natAbs := by
    rintro z hz ⟨i, rfl⟩
    rw [Int.natAbs_mul]
    refine Nat.le_mul_of_pos_left _ ?_
    rcases Nat.eq_zero_or_pos i.natAbs with z | z
    · rw [Int.natAbs_eq_zero.mp z] at hz; simp at hz
    · exact z
  by_cases h1 : x = 0
  · by_cases h2 : y = 0
    · subst h1 h2
      have g0 : Grp fun p : Pt => p = (0, 0) := ⟨rfl, by rintro p q rfl rfl; rfl⟩
      have := h.grp _ g0 rfl rfl
      have e : g = 0 := congrArg Prod.fst this
      subst e
      exact Nat.two_pow_pos _
    · exact (hy.of_le (le h2 h.i2)).mono (Nat.le_max_right _ _)
  · exact (hx.of_le (le h1 h.i1)).mono (Nat.le_max_left _ _)
structure Msi (x0 y0 x y : Int) : Prop where
  grp : ∀ G, Grp G → G (x0, 0) → G (y0, 0) → G (x, 0) ∧ G (y, 0)
  i1 : ∃ i j, x0 = i * x + j * y
  i2 : ∃ i j, y0 = i * x + j * y
theorem Msi.step {x0 y0 x y : Int} (h : Msi x0 y0 x y) : Msi x0 y0 y (x.fmod y) := by
  have e := Int.fmod_def x y
  refine ⟨fun G g a b => ⟨(h.grp G g a b).2, ?_⟩, ?_, ?_⟩
  · have := g.sub _ _ (h.grp G g a b).1 (g.mul (h.grp G g a b).2 (x.fdiv y))
    simp only [Int.mul_zero, Int.sub_zero] at this
    rw [e, Int.mul_comm]; exact this
  · obtain ⟨i, j, z⟩ := h.i1
    refine ⟨i * x.fdiv y + j, i, ?_⟩
    rw [z, e, Int.add_mul, Int.mul_sub]
    have : i * x.fdiv y * y = i * (y * x.fdiv y) := by ac_rfl
    omega
  · obtain ⟨i, j, z⟩ := h.i2
    refine ⟨i * x.fdiv y + j, i, ?_⟩
    rw [z, e, Int.add_mul, Int.mul_sub]
    have : i * x.fdiv y * y = i * (y * x.fdiv y) := by ac_rfl
    omega
theorem Msi.fin {x0 y0 x : Int} (h : Msi x0 y0 x 0) : Ms x0 y0 (if x < 0 then -x else x) := by
  obtain ⟨i, j, z⟩ := h.i1
  obtain ⟨k, l, z'⟩ := h.i2
  simp only [Int.mul_zero, Int.add_zero] at z z'
  split
  · refine ⟨by omega, fun G g a b => ?_, ⟨-i, by rw [z, Int.neg_mul_neg]⟩, ⟨-k, by rw [z', Int.neg_mul_neg]⟩⟩
    have := g.neg (h.grp G g a b).1
    simpa using this
  · exact ⟨by omega, fun G g a b => (h.grp G g a b).1, ⟨i, z⟩, ⟨k, z'⟩⟩
def sp_common_measure : Sp3 := fun ds H Q => match ds with
  | [.int x, .int y] => ∀ g, Ms x y g → Q (.int g) H
  | _ => False
theorem u_common_measure {x y : Int} {H : Hp3} {Q : VK3} (h : ∀ g, Ms x y g → Q (.int g) H) : sp_common_measure [.int x, .int y] H Q := h
theorem len_common_measure : ∀ (ds : List D) (H : Hp3) (Q : VK3), sp_common_measure ds H Q → ds.length = P_common_measure.length := by
  intro ds H Q h
  unfold sp_common_measure at h
  split at h
  · rfl
  · exact h.elim

def lp_common_measure_0 : TS3 := wh3 (ts3 (o3 r3ne (v3 1) (c3 (.int 0)))) (sq3 (st3 2 (o3 i3modN (v3 0) (v3 1)))
    (sq3 (st3 0 (v3 1))
    (st3 1 (v3 2))))
def t_common_measure : TS3 := (sq3 lp_common_measure_0
    (rt3 (cb3 r3abs (cons3 (v3 0) nil3))))
theorem rd_common_measure : ∀ (ds : List D) (H : Hp3) (Q : VK3), sp_common_measure ds H Q → t_common_measure (fin3 Q) (start3 N_common_measure ds) H := by
  intro ds H Q h
  unfold sp_common_measure at h
  split at h
  case h_2 => exact h.elim
  rename_i x0 y0
  simp only [t_common_measure, start3, N_common_measure, List.map_cons, List.map_nil, List.length_cons, List.length_nil, Nat.reduceAdd, Nat.reduceSub, Nat.zero_add, List.replicate, List.cons_append, List.nil_append]
  walk_at "l3"
  unfold lp_common_measure_0
  refine g_wh (fun σ H2 => H2 = H ∧ ∃ x y z, Msi x0 y0 x y ∧ σ = [some (.int x), some (.int y), z]) (fun σ _ => match σ with | [_, some (.int y), _] => y.natAbs | _ => 0) ⟨rfl, x0, y0, none, ⟨fun _ _ a b => ⟨a, b⟩, ⟨1, 0, by omega⟩, ⟨0, 1, by omega⟩⟩, rfl⟩ ?_
  rintro σ H2 ⟨rfl, x, y, z, hi, rfl⟩
  walk_at "l3"
  refine ifN (fun hy => ?_) fun hy => ?_
  · walk_at "l3"
    refine g_modN hy ?_
    walk_at "l3"
    exact ⟨⟨rfl, y, x.fmod y, _, hi.step, rfl⟩, fmod_ab hy⟩
  · subst hy
    walk_at "l3"
    refine g_abs ?_
    exact g_fin (h _ hi.fin) Sub3.refl

structure Lvl (N : Nat) (p0 q0 u : Pt) (w : Int) : Prop where
  grp : ∀ G, Grp G → G p0 → G q0 → G u ∧ G (w, 0)
  i1 : In2 u (w, 0) p0
  i2 : In2 u (w, 0) q0
  bu : Bt 400 u.2
  b1 : Bt (N + 400000) u.1
  bw : Bt (N + 400000) w
def sp_levelled : Sp3 := fun ds H Q => match ds with
  | [.tup [.int x1, .int y1], .tup [.int x2, .int y2]] => ∃ N : Nat, (N ≤ 60000000 ∧ Bt N x1 ∧ Bt N x2 ∧ Bt 400 y1 ∧ Bt 400 y2) ∧ ∀ u : Pt, ∀ w : Int, Lvl N (x1, y1) (x2, y2) u w → Q (.tup [.tup [.int u.1, .int u.2], .tup [.int w, .int 0]]) H
  | _ => False
theorem u_levelled {x1 y1 x2 y2 : Int} (N : Nat) {H : Hp3} {Q : VK3} (hN : N ≤ 60000000) (h1 : Bt N x1) (h2 : Bt N x2) (h3 : Bt 400 y1) (h4 : Bt 400 y2) (h : ∀ u : Pt, ∀ w : Int, Lvl N (x1, y1) (x2, y2) u w → Q (.tup [.tup [.int u.1, .int u.2], .tup [.int w, .int 0]]) H) : sp_levelled [.tup [.int x1, .int y1], .tup [.int x2, .int y2]] H Q := ⟨N, ⟨hN, h1, h2, h3, h4⟩, h⟩
theorem len_levelled : ∀ (ds : List D) (H : Hp3) (Q : VK3), sp_levelled ds H Q → ds.length = P_levelled.length := by
  intro ds H Q h
  unfold sp_levelled at h
  split at h
  · rfl
  · exact h.elim

def lp_levelled_0 : TS3 := wh3 (ts3 (o3 r3ne (o3 r3ix (v3 1) (c3 (.int 1))) (c3 (.int 0)))) (sq3 (st3 2 (o3 i3divN (o3 r3ix (v3 0) (c3 (.int 1))) (o3 r3ix (v3 1) (c3 (.int 1)))))
    (sq3 (st3 3 (tp3 (cons3 (o3 i3sub (o3 r3ix (v3 0) (c3 (.int 0))) (o3 i3mulW (v3 2) (o3 r3ix (v3 1) (c3 (.int 0))))) (cons3 (o3 i3sub (o3 r3ix (v3 0) (c3 (.int 1))) (o3 i3mulW (v3 2) (o3 r3ix (v3 1) (c3 (.int 1))))) nil3))))
    (sq3 (st3 0 (v3 1))
    (st3 1 (v3 3)))))
def t_levelled : TS3 := (sq3 lp_levelled_0
    (rt3 (tp3 (cons3 (v3 0) (cons3 (v3 1) nil3)))))
theorem rd_levelled : ∀ (ds : List D) (H : Hp3) (Q : VK3), sp_levelled ds H Q → t_levelled (fin3 Q) (start3 N_levelled ds) H := by
  intro ds H Q h
  unfold sp_levelled at h
  split at h
  case h_2 => exact h.elim
  rename_i x1 y1 x2 y2
  obtain ⟨N, ⟨hN, b1, b2, b3, b4⟩, h⟩ := h
  simp only [t_levelled, start3, N_levelled, List.map_cons, List.map_nil, List.length_cons, List.length_nil, Nat.reduceAdd, Nat.reduceSub, Nat.zero_add, List.replicate, List.cons_append, List.nil_append]
  walk_at "l3"
  unfold lp_levelled_0
  refine g_wh (fun σ H2 => H2 = H ∧ ∃ p q : Pt, ∃ y z, Lev N (x1, y1) (x2, y2) p q ∧ σ = [some (.tup [.int p.1, .int p.2]), some (.tup [.int q.1, .int q.2]), y, z]) (fun σ _ => match σ with | [_, some (.tup [_, .int y]), _, _] => y.natAbs | _ => 0) ⟨rfl, (x1, y1), (x2, y2), none, none, Lev.start b3 b4 b1 b2, rfl⟩ ?_
  rintro σ H2 ⟨rfl, p, q, y, z, hi, rfl⟩
  obtain ⟨c1, c2⟩ := hi.all
  have c3 := hi.bp
  have c4 := hi.bq
  have hs := hi.step
  obtain ⟨p1, p2⟩ := p
  obtain ⟨q1, q2⟩ := q
  dsimp only at c1 c2 c3 c4
  have c5 : Bt 400 (p2.fdiv q2) := Bt.fdiv c3
  walk_at "l3"
  refine ifN (fun hy => ?_) fun hy => ?_
  · walk_at "l3"
    refine g_divN ⟨hy, Bt.mono c4 (by decide)⟩ ?_
    walk_at "l3"
    refine g_mulW (.inr ⟨400, N + 400000, c5, c2, by omega⟩) ?_
    walk_at "l3"
    exact ⟨⟨rfl, (q1, q2), tkn (p1, p2) (q1, q2), _, _, (hs hy).1, rfl⟩, (hs hy).2⟩
  · subst hy
    walk_at "l3"
    exact g_fin (h (p1, p2) q1 ⟨hi.grp, hi.i1, hi.i2, c3, c1, c2⟩) Sub3.refl

def cat (ns : List Int) (k : Nat) : Int := if k < ns.length then ns.getD k 0 else if ns.length = 0 then 0 else (ns.getD (k % ns.length) 0 % 1000003 * 48271 + (k : Int) * (k : Int) * 7919) % 1000003
def sp_l_cell_at : Sp3 := fun ds H Q => match ds with
  | [.fl xs, .int k] => (match intsOf xs with
    | some ns => (0 ≤ k ∧ k < 100000 ∧ ns.length ≤ 63) ∧ Q (.int (cat ns k.toNat)) H
    | none => False)
  | _ => False
theorem u_l_cell_at {ns : List Int} {k : Int} {H : Hp3} {Q : VK3} (hk : 0 ≤ k) (hk1 : k < 100000) (hl : ns.length ≤ 63) (h : Q (.int (cat ns k.toNat)) H) : sp_l_cell_at [.fl (ns.map D.int), .int k] H Q := by
  simp only [sp_l_cell_at, intsOf_map]; exact ⟨⟨hk, hk1, hl⟩, h⟩
local macro_rules | `(tactic| walk_at "l3c") => `(tactic| ((with_reducible show sp_l_cell_at _ _ _); refine u_l_cell_at (by walk_at "l3a") (by walk_at "l3a") (by assumption) ?_))
theorem len_l_cell_at : ∀ (ds : List D) (H : Hp3) (Q : VK3), sp_l_cell_at ds H Q → ds.length = P_l_cell_at.length := by
  intro ds H Q h
  unfold sp_l_cell_at at h
  split at h
  · rfl
  · exact h.elim

def t_l_cell_at : TS3 := (sq3 (is3 (ts3 (o3 r3lt (v3 1) (cb3 r3len (cons3 (v3 0) nil3)))) (rt3 (o3 r3ix (v3 0) (v3 1))) nx3)
    (sq3 (is3 (ts3 (o3 r3eq (cb3 r3len (cons3 (v3 0) nil3)) (c3 (.int 0)))) (rt3 (c3 (.int 0))) nx3)
    (rt3 (o3 i3mod (o3 r3add (o3 i3mulW (o3 i3mod (o3 r3ix (v3 0) (o3 i3mod (v3 1) (cb3 r3len (cons3 (v3 0) nil3)))) (c3 (.int 1000003))) (c3 (.int 48271))) (o3 i3mulW (o3 i3mulW (v3 1) (v3 1)) (c3 (.int 7919)))) (c3 (.int 1000003))))))
theorem rd_l_cell_at : ∀ (ds : List D) (H : Hp3) (Q : VK3), sp_l_cell_at ds H Q → t_l_cell_at (fin3 Q) (start3 N_l_cell_at ds) H := by
  intro ds H Q h
  unfold sp_l_cell_at at h
  split at h
  case h_2 => exact h.elim
  rename_i xs k
  split at h
  case h_2 => exact h.elim
  rename_i ns e
  have e' := intsOf_inv e
  subst e'
  obtain ⟨⟨hk, hk1, hns⟩, h⟩ := h
  obtain ⟨n, rfl⟩ := Int.eq_ofNat_of_zero_le hk
  rw [Int.toNat_natCast] at h
  simp only [t_l_cell_at, start3, N_l_cell_at, List.map_cons, List.map_nil, List.length_cons, List.length_nil, Nat.reduceAdd, Nat.reduceSub, Nat.zero_add, List.replicate, List.cons_append, List.nil_append]
  unfold cat at h
  walk_at "l3"
  rw [List.length_map]
  refine ifD (fun hlt => ?_) fun hlt => ?_
  · have hl : n < ns.length := by omega
    rw [if_pos hl] at h
    have ha : atI (ns.map D.int) (n : Int) = some (.int (ns.getD n 0)) := by
      rw [atI_map (by omega) (by rw [Int.toNat_natCast]; exact hl)]
      simp only [Int.toNat_natCast, List.getD_eq_getElem?_getD, List.getElem?_eq_getElem hl]; rfl
    walk_at "l3"
    refine g_ixF ha ?_
    walk_at "l3"
    exact g_fin h Sub3.refl
  · have hl : ¬ n < ns.length := by omega
    rw [if_neg hl] at h
    walk_at "l3"
    rw [List.length_map]
    refine ifD (fun h0 => ?_) fun h0 => ?_
    · walk_at "l3"
      rw [if_pos (by omega)] at h
      exact g_fin h Sub3.refl
    · rw [if_neg (by omega)] at h
      have hp : (0 : Int) < ns.length := by omega
      have hm : n % ns.length < ns.length := Nat.mod_lt _ (by omega)
      walk_at "l3"
      rw [List.length_map]
      refine g_mod hp ?_
      have ha : atI (ns.map D.int) ((n : Int) % (ns.length : Int)) = some (.int (ns.getD (n % ns.length) 0)) := by
        rw [← Int.natCast_emod, atI_map (by omega) (by rw [Int.toNat_natCast]; exact hm)]
        simp only [Int.toNat_natCast, List.getD_eq_getElem?_getD, List.getElem?_eq_getElem hm]; rfl
      refine g_ixF ha ?_
      walk_at "l3"
      exact g_fin h Sub3.refl

def sp_l_whole : Sp3 := fun ds H Q => match ds with
  | [.int _] => Q (.bl true) H
  | _ => False
theorem u_l_whole {i : Int} {H : Hp3} {Q : VK3} (h : Q (.bl true) H) : sp_l_whole [.int i] H Q := h
local macro_rules | `(tactic| walk_at "l3c") => `(tactic| (with_reducible refine u_l_whole ?_))
theorem len_l_whole : ∀ (ds : List D) (H : Hp3) (Q : VK3), sp_l_whole ds H Q → ds.length = P_l_whole.length := by
  intro ds H Q h
  unfold sp_l_whole at h
  split at h
  · rfl
  · exact h.elim

def t_l_whole : TS3 := (rt3 (av3 (cb3 r3isi (cons3 (v3 0) (cons3 (c3 (.ty "int")) nil3))) (nv3 (cb3 r3isi (cons3 (v3 0) (cons3 (c3 (.ty "bool")) nil3))))))
theorem rd_l_whole : ∀ (ds : List D) (H : Hp3) (Q : VK3), sp_l_whole ds H Q → t_l_whole (fin3 Q) (start3 N_l_whole ds) H := by
  intro ds H Q h
  unfold sp_l_whole at h
  split at h
  case h_2 => exact h.elim
  simp only [t_l_whole, start3, N_l_whole, List.map_cons, List.map_nil, List.length_cons, List.length_nil, Nat.reduceAdd, Nat.reduceSub, Nat.zero_add, List.replicate, List.cons_append, List.nil_append]
  walk_at "l3"
  refine ifY rfl ?_
  walk_at "l3"
  exact g_fin h Sub3.refl

def sp_l_numbers_of : Sp3 := fun ds H Q => match ds with
  | [.tup [.int a, .int b, .int d], .tup [.int x, .int y]] => (GrOk a b d ∧ Bt 20000 x ∧ Bt 20000 y) ∧ ((x - y / d * b) % a = 0 ∧ y % d = 0 → Q (.tup [.int ((x - y / d * b) / a), .int (y / d)]) H) ∧ (¬ ((x - y / d * b) % a = 0 ∧ y % d = 0) → Q .non H)
  | _ => False
theorem u_l_numbers_of {a b d x y : Int} {H : Hp3} {Q : VK3} (hg : GrOk a b d) (hi : Bt 20000 x) (hj : Bt 20000 y) (h : (x - y / d * b) % a = 0 ∧ y % d = 0 → Q (.tup [.int ((x - y / d * b) / a), .int (y / d)]) H) (h' : ¬ ((x - y / d * b) % a = 0 ∧ y % d = 0) → Q .non H) : sp_l_numbers_of [.tup [.int a, .int b, .int d], .tup [.int x, .int y]] H Q := ⟨⟨hg, hi, hj⟩, h, h'⟩
theorem len_l_numbers_of : ∀ (ds : List D) (H : Hp3) (Q : VK3), sp_l_numbers_of ds H Q → ds.length = P_l_numbers_of.length := by
  intro ds H Q h
  unfold sp_l_numbers_of at h
  split at h
  · rfl
  · exact h.elim

def t_l_numbers_of : TS3 := (sq3 (is3 (ts3 (o3 r3ne (o3 i3mod (o3 r3ix (v3 1) (c3 (.int 1))) (o3 r3ix (v3 0) (c3 (.int 2)))) (c3 (.int 0)))) (rt3 (c3 .non)) nx3)
    (sq3 (st3 2 (o3 i3divW (o3 r3ix (v3 1) (c3 (.int 1))) (o3 r3ix (v3 0) (c3 (.int 2)))))
    (sq3 (is3 (ts3 (o3 r3ne (o3 i3mod (o3 i3sub (o3 r3ix (v3 1) (c3 (.int 0))) (o3 i3mulW (v3 2) (o3 r3ix (v3 0) (c3 (.int 1))))) (o3 r3ix (v3 0) (c3 (.int 0)))) (c3 (.int 0)))) (rt3 (c3 .non)) nx3)
    (rt3 (tp3 (cons3 (o3 i3divW (o3 i3sub (o3 r3ix (v3 1) (c3 (.int 0))) (o3 i3mulW (v3 2) (o3 r3ix (v3 0) (c3 (.int 1))))) (o3 r3ix (v3 0) (c3 (.int 0)))) (cons3 (v3 2) nil3)))))))
theorem rd_l_numbers_of : ∀ (ds : List D) (H : Hp3) (Q : VK3), sp_l_numbers_of ds H Q → t_l_numbers_of (fin3 Q) (start3 N_l_numbers_of ds) H := by
  intro ds H Q h
  unfold sp_l_numbers_of at h
  split at h
  case h_2 => exact h.elim
  rename_i a b d x y
  obtain ⟨⟨hg, hi, hj⟩, h, h'⟩ := h
  have hb := hg.bb
  obtain ⟨h1, h2, h3, h4, h5, h6⟩ := hg
  simp only [t_l_numbers_of, start3, N_l_numbers_of, List.map_cons, List.map_nil, List.length_cons, List.length_nil, Nat.reduceAdd, Nat.reduceSub, Nat.zero_add, List.replicate, List.cons_append, List.nil_append]
  walk_at "l3"
  refine ifN (fun z => ?_) fun z => ?_
  · walk_at "l3"
    exact g_fin (h' fun y => z y.2) Sub3.refl
  · walk_at "l3"
    refine ifN (fun z1 => ?_) fun z1 => ?_
    · walk_at "l3"
      exact g_fin (h' fun y => z1 y.1) Sub3.refl
    · walk_at "l3"
      exact g_fin (h ⟨z1, z⟩) Sub3.refl

def sp_l_divisor : Sp3 := fun ds H Q => match ds with
  | [.int x, .int y] => ∀ g, Ms x y g → Q (.int g) H
  | _ => False
theorem u_l_divisor {x y : Int} {H : Hp3} {Q : VK3} (h : ∀ g, Ms x y g → Q (.int g) H) : sp_l_divisor [.int x, .int y] H Q := h
theorem len_l_divisor : ∀ (ds : List D) (H : Hp3) (Q : VK3), sp_l_divisor ds H Q → ds.length = P_l_divisor.length := by
  intro ds H Q h
  unfold sp_l_divisor at h
  split at h
  · rfl
  · exact h.elim

def lp_l_divisor_0 : TS3 := wh3 (ts3 (o3 r3ne (v3 1) (c3 (.int 0)))) (pr3 0 1 (v3 1) (o3 i3modN (v3 0) (v3 1)))
def t_l_divisor : TS3 := (sq3 lp_l_divisor_0
    (rt3 (cb3 r3abs (cons3 (v3 0) nil3))))
theorem rd_l_divisor : ∀ (ds : List D) (H : Hp3) (Q : VK3), sp_l_divisor ds H Q → t_l_divisor (fin3 Q) (start3 N_l_divisor ds) H := by
  intro ds H Q h
  unfold sp_l_divisor at h
  split at h
  case h_2 => exact h.elim
  rename_i x0 y0
  simp only [t_l_divisor, start3, N_l_divisor, List.map_cons, List.map_nil, List.length_cons, List.length_nil, Nat.reduceAdd, Nat.reduceSub, Nat.zero_add, List.replicate, List.cons_append, List.nil_append]
  walk_at "l3"
  unfold lp_l_divisor_0
  refine g_wh (fun σ H2 => H2 = H ∧ ∃ x y, Msi x0 y0 x y ∧ σ = [some (.int x), some (.int y)]) (fun σ _ => match σ with | [_, some (.int y)] => y.natAbs | _ => 0) ⟨rfl, x0, y0, ⟨fun _ _ a b => ⟨a, b⟩, ⟨1, 0, by omega⟩, ⟨0, 1, by omega⟩⟩, rfl⟩ ?_
  rintro σ H2 ⟨rfl, x, y, hi, rfl⟩
  walk_at "l3"
  refine ifN (fun hy => ?_) fun hy => ?_
  · walk_at "l3"
    refine g_modN hy ?_
    walk_at "l3"
    exact ⟨⟨rfl, y, x.fmod y, hi.step, rfl⟩, fmod_ab hy⟩
  · subst hy
    walk_at "l3"
    refine g_abs ?_
    exact g_fin (h _ hi.fin) Sub3.refl

def sp_l_kinds : Sp3 := fun ds H Q => match ds with
  | [.ref a] => H a = some (.exc "NoGrid") ∧ ∀ p, H p = none → Q (.ref p) (upd3 H p (.lst [.str "NoGrid"]))
  | _ => False
theorem u_l_kinds {a : Addr} {H : Hp3} {Q : VK3} (ha : H a = some (.exc "NoGrid")) (h : ∀ p, H p = none → Q (.ref p) (upd3 H p (.lst [.str "NoGrid"]))) : sp_l_kinds [.ref a] H Q := ⟨ha, h⟩
def kTold : List D := [.bl false, .bl false, .bl false, .bl false, .bl false, .bl false, .bl true, .bl false, .bl false, .bl false, .bl false, .bl false, .bl false, .bl false]
def kNames : List D := [.str "NoPiece", .str "TooMany", .str "Apart", .str "Hole", .str "NoDrawing", .str "Backward", .str "NoGrid", .str "NotAsMany", .str "NoFloor", .str "NoLine", .str "Nothing", .str "NoWord", .str "Crossed", .str "Open"]
theorem k_told {a : Nat} (h : a < 14) : atI kTold (0 + (a : Int)) = some (.bl (decide (a = 6))) := by
  have : a = 0 ∨ a = 1 ∨ a = 2 ∨ a = 3 ∨ a = 4 ∨ a = 5 ∨ a = 6 ∨ a = 7 ∨ a = 8 ∨ a = 9 ∨ a = 10 ∨ a = 11 ∨ a = 12 ∨ a = 13 := by omega
  rcases this with rfl | rfl | rfl | rfl | rfl | rfl | rfl | rfl | rfl | rfl | rfl | rfl | rfl | rfl <;> rfl
theorem k_names {a : Nat} (h : a < 14) : atI kNames (0 + (a : Int)) = some (kNames.getD a .non) := by
  have : a = 0 ∨ a = 1 ∨ a = 2 ∨ a = 3 ∨ a = 4 ∨ a = 5 ∨ a = 6 ∨ a = 7 ∨ a = 8 ∨ a = 9 ∨ a = 10 ∨ a = 11 ∨ a = 12 ∨ a = 13 := by omega
  rcases this with rfl | rfl | rfl | rfl | rfl | rfl | rfl | rfl | rfl | rfl | rfl | rfl | rfl | rfl <;> rfl
theorem len_l_kinds : ∀ (ds : List D) (H : Hp3) (Q : VK3), sp_l_kinds ds H Q → ds.length = P_l_kinds.length := by
  intro ds H Q h
  unfold sp_l_kinds at h
  split at h
  · rfl
  · exact h.elim

def t_l_kinds : TS3 := (sq3 (st3 1 (ls3 (cons3 (isx3 [("NoGrid", false)] (v3 0)) (cons3 (isx3 [("NoGrid", false)] (v3 0)) (cons3 (isx3 [("NoGrid", false)] (v3 0)) (cons3 (isx3 [("NoGrid", false)] (v3 0)) nil3))))))
    (sq3 (st3 1 (o3 r3add (v3 1) (ls3 (cons3 (isx3 [("NoGrid", false)] (v3 0)) (cons3 (isx3 [("NoGrid", false)] (v3 0)) (cons3 (isx3 [("NoGrid", true)] (v3 0)) (cons3 (isx3 [("NoGrid", false)] (v3 0)) nil3)))))))
    (sq3 (st3 1 (o3 r3add (v3 1) (ls3 (cons3 (isx3 [("NoGrid", false)] (v3 0)) (cons3 (isx3 [("NoGrid", false)] (v3 0)) (cons3 (isx3 [("NoGrid", false)] (v3 0)) (cons3 (isx3 [("NoGrid", false)] (v3 0)) nil3)))))))
    (sq3 (st3 1 (o3 r3add (v3 1) (ls3 (cons3 (isx3 [("NoGrid", false)] (v3 0)) (cons3 (isx3 [("NoGrid", false)] (v3 0)) nil3)))))
    (sq3 (st3 2 (ls3 (cons3 (c3 (.str "NoPiece")) (cons3 (c3 (.str "TooMany")) (cons3 (c3 (.str "Apart")) (cons3 (c3 (.str "Hole")) (cons3 (c3 (.str "NoDrawing")) (cons3 (c3 (.str "Backward")) (cons3 (c3 (.str "NoGrid")) (cons3 (c3 (.str "NotAsMany")) (cons3 (c3 (.str "NoFloor")) (cons3 (c3 (.str "NoLine")) nil3))))))))))))
    (sq3 (st3 2 (o3 r3add (v3 2) (ls3 (cons3 (c3 (.str "Nothing")) (cons3 (c3 (.str "NoWord")) (cons3 (c3 (.str "Crossed")) (cons3 (c3 (.str "Open")) nil3)))))))
    (sq3 (is3 (no3 (ts3 (isx3 [("NoGrid", true)] (v3 0)))) (rt3 (ls3 (cons3 (c3 (.str "no ValueError")) nil3))) nx3)
    (rt3 (cp3 (ir1 (c3 (.int 14))) (gn3 0) (ts3 (o3 r3ix (v3 1) (v3 0))) (o3 r3ix (v3 2) (v3 0)) ["_law_k"] [(1, "_law_told"), (2, "_law_names")])))))))))
theorem rd_l_kinds : ∀ (ds : List D) (H : Hp3) (Q : VK3), sp_l_kinds ds H Q → t_l_kinds (fin3 Q) (start3 N_l_kinds ds) H := by
  intro ds H Q h
  unfold sp_l_kinds at h
  split at h
  case h_2 => exact h.elim
  rename_i a
  obtain ⟨ha, h⟩ := h
  simp only [t_l_kinds, start3, N_l_kinds, List.map_cons, List.map_nil, List.length_cons, List.length_nil, Nat.reduceAdd, Nat.reduceSub, Nat.zero_add, List.replicate, List.cons_append, List.nil_append]
  have rest : ∀ (H9 : Hp3) (p7 p10 : Addr), Sub3 H H9 → H9 p7 = some (.lst kTold) → H9 p10 = some (.lst kNames) →
      (rt3 (cp3 (ir1 (c3 (.int 14))) (gn3 0) (ts3 (o3 r3ix (v3 1) (v3 0))) (o3 r3ix (v3 2) (v3 0)) ["_law_k"] [(1, "_law_told"), (2, "_law_names")])) (fin3 Q) [some (.ref a), some (.ref p7), some (.ref p10)] H9 := by
    intro H9 p7 p10 sb h7 h10
    walk_at "l3"
    refine Cp.filt (as := List.range 14) (E := fun i : Nat => D.int (0 + (i : Int))) (fun i => kNames.getD i .non) (fun i => decide (i = 6)) (fun _ _ => trivial) (by decide) ?_ ?_
    · intro i x hx R1 R0 H2 hs hy hn
      have hx14 : x < 14 := List.mem_range.mp (List.mem_of_getElem? hx)
      walk_at "l3"
      refine g_ixL (hs _ _ h7) (k_told hx14) ?_
      walk_at "l3"
      refine ifD (fun z => ?_) fun z => ?_
      · walk_at "l3"
        refine g_ixL (hs _ _ h10) (k_names hx14) ?_
        exact hy (by simp [z]) H2 Sub3.refl
      · exact hn (by simp [z]) H2 Sub3.refl
    · intro p hp
      have hp0 : H p = none := by
        cases e : H p with
        | none => rfl
        | some o => rw [sb p o e] at hp; cases hp
      exact g_fin (h p hp0) (sub_upd (sb.upd hp0) upd3_same)
  walk_at "l3"
  intro p1 hp1
  walk_at "l3"
  intro p2 hp2
  walk_at "l3"
  refine g_cat (by walk_at "l3h") (by walk_at "l3h") (by rw [sizeLine_n]; decide) fun p3 hp3 => ?_
  walk_at "l3"
  intro p4 hp4
  walk_at "l3"
  refine g_cat (by walk_at "l3h") (by walk_at "l3h") (by rw [sizeLine_n]; decide) fun p5 hp5 => ?_
  walk_at "l3"
  intro p6 hp6
  walk_at "l3"
  refine g_cat (by walk_at "l3h") (by walk_at "l3h") (by rw [sizeLine_n]; decide) fun p7 hp7 => ?_
  walk_at "l3"
  intro p8 hp8
  walk_at "l3"
  intro p9 hp9
  walk_at "l3"
  refine g_cat (by walk_at "l3h") (by walk_at "l3h") (by rw [sizeLine_n]; decide) fun p10 hp10 => ?_
  walk_at "l3"
  refine ifX rfl ?_
  refine g_nx3 (g_nx ?_)
  exact rest _ _ _ ((((((((((Sub3.fresh hp1).trans (Sub3.fresh hp2)).trans (Sub3.fresh hp3)).trans (Sub3.fresh hp4)).trans (Sub3.fresh hp5)).trans (Sub3.fresh hp6)).trans (Sub3.fresh hp7)).trans (Sub3.fresh hp8)).trans (Sub3.fresh hp9)).trans (Sub3.fresh hp10)) (upd3_old (upd3_old (upd3_old upd3_same hp8) hp9) hp10) upd3_same

/-- shifts walked so far -/
structure Gof (ps : List Pt) (N : Nat) (E : Int) (n : Pt) : Prop where
  nn : 0 ≤ E
  grp : ∀ G, Grp G → (∀ p ∈ ps, G p) → G (E, 0) ∧ G n
  ins : ∀ p ∈ ps, In2 (E, 0) n p
  b1 : Bt N n.1
  b2 : Bt 400 n.2
  be : Bt N E
theorem Gof.step {ps : List Pt} {N : Nat} {E : Int} {n s u : Pt} {w g : Int} (h : Gof ps N E n) (l : Lvl N n s u w) (m : Ms E w g) : Gof (ps ++ [s]) (N + 400000) g u ∧ (g ≠ 0 → Gof (ps ++ [s]) (N + 400000) g (u.1 % g, u.2)) := by
  have bg : Bt (N + 400000) g := (m.bt h.be l.bw).mono (by omega)
  obtain ⟨i, hi⟩ := m.i1
  obtain ⟨j, hj⟩ := m.i2
  have iE : ∀ v, In2 (g, 0) v (E, 0) := fun v => ⟨i, 0, by show E = i * g + 0 * v.1; omega, by show (0 : Int) = i * 0 + 0 * v.2; omega⟩
  have iw : ∀ v, In2 (g, 0) v (w, 0) := fun v => ⟨j, 0, by show w = j * g + 0 * v.1; omega, by show (0 : Int) = j * 0 + 0 * v.2; omega⟩
  have ins : ∀ p ∈ ps ++ [s], In2 (g, 0) u p := by
    intro p hp
    rcases List.mem_append.mp hp with hp | hp
    · exact In2.trans (iE _) (In2.trans (In2.right _ _) (iw _) l.i1) (h.ins p hp)
    · rw [List.mem_singleton.mp hp]
      exact In2.trans (In2.right _ _) (iw _) l.i2
  have grp : ∀ G, Grp G → (∀ p ∈ ps ++ [s], G p) → G (g, 0) ∧ G u := by
    intro G gG hG
    have h1 := h.grp G gG fun p hp => hG p (List.mem_append_left _ hp)
    have h2 := l.grp G gG h1.2 (hG s (List.mem_append_right _ (List.mem_singleton.mpr rfl)))
    exact ⟨m.grp G gG h1.1 h2.2, h2.1⟩
  refine ⟨⟨m.nn, grp, ins, l.b1, l.bu, bg⟩, fun hg => ?_⟩
  have hp : 0 < g := by have := m.nn; omega
  have e := Int.mul_ediv_add_emod u.1 g
  refine ⟨m.nn, fun G gG hG => ⟨(grp G gG hG).1, ?_⟩, fun p hp => ?_, Bt.mod bg hp, l.bu, bg⟩
  · have := gG.sub _ _ (grp G gG hG).2 (gG.mul (grp G gG hG).1 (u.1 / g))
    simp only [Int.mul_zero, Int.sub_zero] at this
    rw [show u.1 % g = u.1 - u.1 / g * g from by rw [Int.mul_comm]; omega]
    exact this
  · refine In2.trans (In2.left _ _) ⟨u.1 / g, 1, ?_, ?_⟩ (ins p hp)
    · show u.1 = u.1 / g * g + 1 * (u.1 % g); rw [Int.mul_comm (u.1 / g)]; omega
    · show u.2 = u.1 / g * 0 + 1 * u.2; omega
/-- the grid of the shifts -/
structure GrOf (ps : List Pt) (e b d : Int) : Prop where
  e0 : 0 < e
  b0 : 0 ≤ b
  b1 : b < e
  d0 : 0 < d
  grp : ∀ G, Grp G → (∀ p ∈ ps, G p) → G (e, 0) ∧ G (b, d)
  ins : ∀ p ∈ ps, In2 (e, 0) (b, d) p
/-- not all on one line -/
def Wide (ps : List Pt) : Prop := ∃ p ∈ ps, ∃ q ∈ ps, crs p q ≠ 0
theorem Gof.wide {ps : List Pt} {N : Nat} {E : Int} {n : Pt} (h : Gof ps N E n) (w : Wide ps) : E ≠ 0 ∧ n.2 ≠ 0 := by
  obtain ⟨p, hp, q, hq, hc⟩ := w
  obtain ⟨k, e⟩ := crs_in (h.ins p hp) (h.ins q hq)
  have : crs (E, 0) n ≠ 0 := by intro z; rw [z, Int.mul_zero] at e; exact hc e
  unfold crs at this
  constructor
  · intro z; rw [z] at this; simp at this
  · intro z; rw [z] at this; simp at this
theorem Gof.empty : Gof [] 401 0 (0, 0) := ⟨by omega, fun G g _ => ⟨g.zero, g.zero⟩, by simp, by unfold Bt; exact Nat.two_pow_pos _, by unfold Bt; exact Nat.two_pow_pos _, by unfold Bt; exact Nat.two_pow_pos _⟩
theorem Gof.mod {ps : List Pt} {N : Nat} {E : Int} {n : Pt} (h : Gof ps N E n) (hE : 0 < E) (g : Int) (hg : g = 1 ∨ g = -1) : ∀ x : Int, x = g * n.1 → Gof ps N E (x % E, g * n.2) := by
  intro x hx
  have e := Int.mul_ediv_add_emod x E
  have gg : g * g = 1 := by rcases hg with rfl | rfl <;> rfl
  refine ⟨h.nn, fun G gG hG => ⟨(h.grp G gG hG).1, ?_⟩, fun p hp => ?_, Bt.mod h.be hE, h.b2.of_le (by rcases hg with rfl | rfl <;> omega), h.be⟩
  · have := gG.sub _ _ (gG.mul (h.grp G gG hG).2 g) (gG.mul (h.grp G gG hG).1 (x / E))
    simp only [Int.mul_zero, Int.sub_zero] at this
    rw [show x % E = g * n.1 - x / E * E from by rw [Int.mul_comm (x / E), ← hx]; omega]
    exact this
  · refine In2.trans (In2.left _ _) ⟨g * (x / E), g, ?_, ?_⟩ (h.ins p hp)
    · show n.1 = g * (x / E) * E + g * (x % E)
      rw [Int.mul_assoc, ← Int.mul_add, show x / E * E + x % E = x from by rw [Int.mul_comm (x / E)]; omega, hx, ← Int.mul_assoc, gg, Int.one_mul]
    · show n.2 = g * (x / E) * 0 + g * (g * n.2)
      rw [← Int.mul_assoc, gg, Int.mul_zero]; omega
theorem crs_grp (q : Pt) : Grp fun v => crs v q = 0 where
  zero := by unfold crs; simp
  sub := fun u v hu hv => by
    unfold crs at hu hv ⊢
    show (u.1 - v.1) * q.2 - (u.2 - v.2) * q.1 = 0
    rw [Int.sub_mul, Int.sub_mul]; omega
theorem crs_grp' (q : Pt) : Grp fun v => crs q v = 0 where
  zero := by unfold crs; simp
  sub := fun u v hu hv => by
    unfold crs at hu hv ⊢
    show q.1 * (u.2 - v.2) - q.2 * (u.1 - v.1) = 0
    rw [Int.mul_sub, Int.mul_sub]; omega
theorem Gof.flat {ps : List Pt} {N : Nat} {E : Int} {n : Pt} (h : Gof ps N E n) (w : ¬ Wide ps) : E = 0 ∨ n.2 = 0 := by
  have all : ∀ p ∈ ps, ∀ q ∈ ps, crs p q = 0 := fun p hp q hq => Classical.byContradiction fun z => w ⟨p, hp, q, hq, z⟩
  have h1 : ∀ q ∈ ps, crs (E, 0) q = 0 := fun q hq => (h.grp _ (crs_grp q) fun p hp => all p hp q hq).1
  have h2 := (h.grp _ (crs_grp' (E, 0)) h1).2
  have h3 : E * n.2 = 0 := by have : crs (E, 0) n = 0 := h2; unfold crs at this; simp only [Int.zero_mul, Int.sub_zero] at this; exact this
  rcases Int.mul_eq_zero.mp h3 with z | z
  · exact .inl z
  · exact .inr z
def sp_grid_of : SpE := fun ds H Q E => match ds with
  | [.ref a] => ∃ ps : List Pt, (H a = some (.lst (ps.map prP)) ∧ ps.length ≤ 100 ∧ (∀ p ∈ ps, Bt 400 p.1 ∧ Bt 400 p.2)) ∧ (Wide ps → ∀ e b d, GrOf ps e b d → Q (.tup [.int e, .int b, .int d]) H) ∧ (¬ Wide ps → E "NoGrid" H)
  | _ => False
theorem u_grid_of {a : Addr} (ps : List Pt) {H : Hp3} {Q : VK3} {E : EK3} (ha : H a = some (.lst (ps.map prP))) (hl : ps.length ≤ 100) (hb : ∀ p ∈ ps, Bt 400 p.1 ∧ Bt 400 p.2) (h : Wide ps → ∀ e b d, GrOf ps e b d → Q (.tup [.int e, .int b, .int d]) H) (h2 : ¬ Wide ps → E "NoGrid" H) : sp_grid_of [.ref a] H Q E := ⟨ps, ⟨ha, hl, hb⟩, h, h2⟩
theorem len_grid_of : ∀ (ds : List D) (H : Hp3) (Q : VK3) (E : EK3), sp_grid_of ds H Q E → ds.length = P_grid_of.length := by
  intro ds H Q E h
  unfold sp_grid_of at h
  split at h
  · rfl
  · exact h.elim

def lp_grid_of_0 : TS3 := fo3 (il3 (v3 0)) (gn3 3) (sq3 (st3 4 (cb3 sp_levelled (cons3 (v3 2) (cons3 (v3 3) nil3))))
    (sq3 (st3 2 (o3 r3ix (v3 4) (c3 (.int 0))))
    (sq3 (st3 1 (cb3 sp_common_measure (cons3 (v3 1) (cons3 (o3 r3ix (o3 r3ix (v3 4) (c3 (.int 1))) (c3 (.int 0))) nil3))))
    (is3 (ts3 (o3 r3ne (v3 1) (c3 (.int 0)))) (st3 2 (tp3 (cons3 (o3 i3mod (o3 r3ix (v3 2) (c3 (.int 0))) (v3 1)) (cons3 (o3 r3ix (v3 2) (c3 (.int 1))) nil3)))) nx3))))
def t_grid_of (E : EK3) : TS3 := (sq3 (st3 1 (c3 (.int 0)))
    (sq3 (st3 2 (tp3 (cons3 (c3 (.int 0)) (cons3 (c3 (.int 0)) nil3))))
    (sq3 lp_grid_of_0
    (sq3 (is3 (or3 (ts3 (o3 r3eq (v3 1) (c3 (.int 0)))) (ts3 (o3 r3eq (o3 r3ix (v3 2) (c3 (.int 1))) (c3 (.int 0))))) (rz3 E "NoGrid" (c3 (.str "all shifts lie on one line, or there are none"))) nx3)
    (sq3 (is3 (ts3 (o3 r3lt (o3 r3ix (v3 2) (c3 (.int 1))) (c3 (.int 0)))) (st3 2 (tp3 (cons3 (o3 i3mod (u3 r3neg (o3 r3ix (v3 2) (c3 (.int 0)))) (v3 1)) (cons3 (u3 r3neg (o3 r3ix (v3 2) (c3 (.int 1)))) nil3)))) nx3)
    (rt3 (tp3 (cons3 (v3 1) (cons3 (o3 r3ix (v3 2) (c3 (.int 0))) (cons3 (o3 r3ix (v3 2) (c3 (.int 1))) nil3))))))))))
theorem rd_grid_of : ∀ (ds : List D) (H : Hp3) (Q : VK3) (E : EK3), sp_grid_of ds H Q E → t_grid_of E (fin3 Q) (start3 N_grid_of ds) H := by
  intro ds H Q E h
  unfold sp_grid_of at h
  split at h
  case h_2 => exact h.elim
  rename_i a
  obtain ⟨ps, ⟨ha, hl, hb⟩, h, hno⟩ := h
  simp only [t_grid_of, start3, N_grid_of, List.map_cons, List.map_nil, List.length_cons, List.length_nil, Nat.reduceAdd, Nat.reduceSub, Nat.zero_add, List.replicate, List.cons_append, List.nil_append]
  walk_at "l3"
  unfold lp_grid_of_0
  walk_at "l3"
  refine Lp.by (fun i σ H2 => H2 = H ∧ ∃ E : Int, ∃ n : Pt, ∃ y z, Gof (ps.take i) (401 + i * 400000) E n ∧ (E ≠ 0 → 0 ≤ n.1 ∧ n.1 < E) ∧ σ = [some (.ref a), some (.int E), some (.tup [.int n.1, .int n.2]), y, z]) ⟨rfl, 0, (0, 0), none, none, Gof.empty, fun z => absurd rfl z, rfl⟩ (fun i σ H2 _ z => by rw [z.1]; exact ha) ?_ ?_
  · rintro i dd σ H2 hd ⟨rfl, E, n, y, z, hi, hrd, rfl⟩
    rw [List.getElem?_map, Option.map_eq_some_iff] at hd
    obtain ⟨s, hs, rfl⟩ := hd
    have hm := List.mem_of_getElem? hs
    have hlt := (List.getElem?_eq_some_iff.mp hs).1
    have htk : ps.take (i + 1) = ps.take i ++ [s] := by rw [List.take_add_one, hs]; rfl
    have eN : 401 + (i + 1) * 400000 = 401 + i * 400000 + 400000 := by omega
    obtain ⟨n1, n2⟩ := n
    obtain ⟨s1, s2⟩ := s
    have bs := hb _ hm
    unfold prP
    walk_at "l3"
    refine u_levelled (401 + i * 400000) (by omega) hi.b1 (bs.1.mono (by omega)) hi.b2 bs.2 fun u w hlv => ?_
    walk_at "l3"
    refine u_common_measure fun g hms => ?_
    have hst := hi.step hlv hms
    rw [← htk, ← eN] at hst
    walk_at "l3"
    refine ifN (fun hg => ?_) fun hg => ?_
    · walk_at "l3"
      have h0 : 0 < g := by have := hms.nn; omega
      refine g_mod h0 ?_
      walk_at "l3"
      exact ⟨rfl, g, (u.1 % g, u.2), _, _, hst.2 hg, fun _ => ⟨Int.emod_nonneg _ hg, Int.emod_lt_of_pos _ h0⟩, rfl⟩
    · walk_at "l3"
      exact ⟨rfl, g, u, _, _, hst.1, fun z => absurd hg z, rfl⟩
  · rintro σ H2 ⟨rfl, E, n, y, z, hi, hrd, rfl⟩
    rw [List.length_map, List.take_of_length_le (Nat.le_refl _)] at hi
    by_cases hw : Wide ps
    · have h := h hw
      obtain ⟨w1, w2⟩ := hi.wide hw
      have hE : 0 < E := by have := hi.nn; omega
      have m0 : ∀ x : Int, 0 ≤ x % E := fun x => Int.emod_nonneg _ (by omega)
      have m1 : ∀ x : Int, x % E < E := fun x => Int.emod_lt_of_pos _ hE
      obtain ⟨n1, n2⟩ := n
      dsimp only at w2
      walk_at "l3"
      refine ifD (fun z => absurd z w1) fun _ => ?_
      walk_at "l3"
      refine ifD (fun z => absurd z w2) fun _ => ?_
      walk_at "l3"
      refine ifD (fun hn => ?_) fun hn => ?_
      · walk_at "l3"
        have hi' := hi.mod hE (-1) (.inr rfl) (-n1) (by omega)
        have e2 : (-1) * n2 = -n2 := by omega
        dsimp only at hi'
        rw [e2] at hi'
        exact g_fin (h _ _ _ ⟨hE, m0 _, m1 _, by omega, hi'.grp, hi'.ins⟩) Sub3.refl
      · walk_at "l3"
        exact g_fin (h _ _ _ ⟨hE, (hrd w1).1, (hrd w1).2, by omega, hi.grp, hi.ins⟩) Sub3.refl
    · have fl := hi.flat hw
      walk_at "l3"
      refine ifD (fun z => ?_) fun z => ?_
      · walk_at "l3"
        exact ⟨_, Sub3.refl, hno hw⟩
      · have fl2 : n.2 = 0 := fl.resolve_left z
        walk_at "l3"
        refine ifD (fun z => ?_) fun z => absurd fl2 z
        walk_at "l3"
        exact ⟨_, Sub3.refl, hno hw⟩

def sp_l_grid_of : Sp3 := fun ds H Q => match ds with
  | [.tup [.int a, .int b, .int d], .ref l, .int c] => (GrOk a b d ∧ a * d = c ∧ ∃ ps : List Pt, H l = some (.lst (ps.map prP)) ∧ ps.length ≤ 1000 ∧ ∀ p ∈ ps, Bt 20000 p.1 ∧ Bt 20000 p.2 ∧ ∃ i j, p.1 = i * a + j * b ∧ p.2 = j * d) ∧ Q (.bl true) H
  | _ => False
theorem u_l_grid_of {a b d c : Int} {l : Addr} (ps : List Pt) {H : Hp3} {Q : VK3} (hg : GrOk a b d) (hc : a * d = c) (ha : H l = some (.lst (ps.map prP))) (hl : ps.length ≤ 1000) (hp : ∀ p ∈ ps, Bt 20000 p.1 ∧ Bt 20000 p.2 ∧ ∃ i j, p.1 = i * a + j * b ∧ p.2 = j * d) (h : Q (.bl true) H) : sp_l_grid_of [.tup [.int a, .int b, .int d], .ref l, .int c] H Q := ⟨⟨hg, hc, ps, ha, hl, hp⟩, h⟩
theorem len_l_grid_of : ∀ (ds : List D) (H : Hp3) (Q : VK3), sp_l_grid_of ds H Q → ds.length = P_l_grid_of.length := by
  intro ds H Q h
  unfold sp_l_grid_of at h
  split at h
  · rfl
  · exact h.elim

def t_l_grid_of : TS3 := (sq3 (is3 (or3 (no3 (ts3 (cb3 r3isi (cons3 (v3 0) (cons3 (c3 (.ty "tuple")) nil3))))) (or3 (ts3 (o3 r3ne (cb3 r3len (cons3 (v3 0) nil3)) (c3 (.int 3)))) (no3 (ts3 (cb3 r3all (cons3 (cp3 (it3 (v3 0)) (gn3 0) yes3 (cb3 sp_l_whole (cons3 (v3 0) nil3)) ["_law_one"] []) nil3)))))) (rt3 (c3 (.bl false))) nx3)
    (sq3 (as3 (v3 0) (g3_3 3 4 5))
    (sq3 (is3 (or3 (ts3 (o3 r3lt (v3 3) (c3 (.int 1)))) (or3 (ts3 (o3 r3lt (v3 5) (c3 (.int 1)))) (or3 (ts3 (o3 r3lt (v3 4) (c3 (.int 0)))) (or3 (ts3 (o3 i3ge (v3 4) (v3 3))) (ts3 (o3 r3ne (o3 i3mulW (v3 3) (v3 5)) (v3 2))))))) (rt3 (c3 (.bl false))) nx3)
    (rt3 (cb3 r3all (cons3 (cp3 (il3 (v3 1)) (gn3 0) yes3 (o3 r3notN (cb3 sp_l_numbers_of (cons3 (v3 1) (cons3 (v3 0) nil3))) (c3 .non)) ["_law_shift"] [(0, "_law_found")]) nil3))))))
theorem rd_l_grid_of : ∀ (ds : List D) (H : Hp3) (Q : VK3), sp_l_grid_of ds H Q → t_l_grid_of (fin3 Q) (start3 N_l_grid_of ds) H := by
  intro ds H Q h
  unfold sp_l_grid_of at h
  split at h
  case h_2 => exact h.elim
  rename_i a b d l c
  obtain ⟨⟨hg, hc, ps, ha, hl, hp⟩, h⟩ := h
  obtain ⟨h1, h2, h3, h4, h5, h6⟩ := id hg
  simp only [t_l_grid_of, start3, N_l_grid_of, List.map_cons, List.map_nil, List.length_cons, List.length_nil, Nat.reduceAdd, Nat.reduceSub, Nat.zero_add, List.replicate, List.cons_append, List.nil_append]
  walk_at "l3"
  refine ifX rfl ?_
  walk_at "l3"
  refine ifN (fun z => absurd rfl z) fun _ => ?_
  walk_at "l3"
  refine Cp.map (as := [a, b, d]) (E := D.int) (fun _ => .bl true) (fun _ _ => trivial) (by show 3 ≤ 1000; decide) ?_ ?_
  · intro i x hx R H2 hs hR
    walk_at "l3"
    exact hR H2 Sub3.refl
  intro p1 hp1
  walk_at "l3"
  refine g_tr (bs := [true, true, true]) upd3_same ?_
  walk_at "l3"
  refine ifX rfl ?_
  walk_at "l3"
  refine ifD (fun z => absurd z (by omega)) fun _ => ?_
  walk_at "l3"
  refine ifD (fun z => absurd z (by omega)) fun _ => ?_
  walk_at "l3"
  refine ifD (fun z => absurd z (by omega)) fun _ => ?_
  walk_at "l3"
  refine ifD (fun z => absurd z (by omega)) fun _ => ?_
  walk_at "l3"
  refine ifN (fun z => absurd hc z) fun _ => ?_
  walk_at "l3"
  refine Cp.map (fun _ => .bl true) (fun H2 hs => hs _ _ (by walk_at "l3h")) hl ?_ ?_
  · intro i x hx R H2 hs hR
    obtain ⟨b1, b2, hij⟩ := hp x (List.mem_of_getElem? hx)
    unfold prP
    walk_at "l3"
    refine u_l_numbers_of hg b1 b2 (fun _ => ?_) fun z => absurd ((rs_zero hg).mpr hij) z
    walk_at "l3"
    exact hR H2 Sub3.refl
  intro p2 hp2
  walk_at "l3"
  refine g_tr (bs := ps.map fun _ => true) (by rw [upd3_same, List.map_map]; rfl) ?_
  rw [show (ps.map fun _ => true).all id = true from by simp]
  exact g_fin h ((Sub3.fresh hp1).trans (Sub3.fresh hp2))

def sp_l_refused : Sp3 := fun ds H Q => match ds with
  | [.ref a] => ∃ ps : List Pt, (H a = some (.lst (ps.map prP)) ∧ ps.length ≤ 100 ∧ (∀ p ∈ ps, Bt 400 p.1 ∧ Bt 400 p.2) ∧ ¬ Wide ps) ∧ Q (.bl true) H
  | _ => False
theorem u_l_refused {a : Addr} (ps : List Pt) {H : Hp3} {Q : VK3} (ha : H a = some (.lst (ps.map prP))) (hl : ps.length ≤ 100) (hb : ∀ p ∈ ps, Bt 400 p.1 ∧ Bt 400 p.2) (hw : ¬ Wide ps) (h : Q (.bl true) H) : sp_l_refused [.ref a] H Q := ⟨ps, ⟨ha, hl, hb, hw⟩, h⟩
theorem g_eqX {a b : Addr} {x y : Str} {H : Hp3} {Q : VK3} (ha : H a = some (.lst [.str x])) (hb : H b = some (.lst [.str y])) (hx : PyData.strOk x = true) (hy : PyData.strOk y = true) (q : Q (.bl (x == y)) H) : r3eq (.ref a) (.ref b) H Q := by
  simp only [r3eq, pyH, ha, hb, mapO, pyN, hx, hy, if_true, Option.map_some, PyData.eqv, PyData.eqvAll, Bool.and_true]; exact q
theorem len_l_refused : ∀ (ds : List D) (H : Hp3) (Q : VK3), sp_l_refused ds H Q → ds.length = P_l_refused.length := by
  intro ds H Q h
  unfold sp_l_refused at h
  split at h
  · rfl
  · exact h.elim

def t_l_refused : TS3 := (sq3 (st3 1 (c3 .non))
    (sq3 (trA3 (sxE (cbE sp_grid_of (cons3 (v3 0) nil3))) ["NoGrid"] 2 (st3 1 (v3 2)))
    (rt3 (av3 (o3 r3notN (v3 1) (c3 .non)) (o3 r3eq (cb3 sp_l_kinds (cons3 (v3 1) nil3)) (ls3 (cons3 (c3 (.str "NoGrid")) nil3)))))))
theorem rd_l_refused : ∀ (ds : List D) (H : Hp3) (Q : VK3), sp_l_refused ds H Q → t_l_refused (fin3 Q) (start3 N_l_refused ds) H := by
  intro ds H Q h
  unfold sp_l_refused at h
  split at h
  case h_2 => exact h.elim
  rename_i a
  obtain ⟨ps, ⟨ha, hl, hb, hw⟩, h⟩ := h
  simp only [t_l_refused, start3, N_l_refused, List.map_cons, List.map_nil, List.length_cons, List.length_nil, Nat.reduceAdd, Nat.reduceSub, Nat.zero_add, List.replicate, List.cons_append, List.nil_append]
  walk_at "l3"
  refine u_grid_of ps ha hl hb (fun z => absurd z hw) fun _ => ⟨List.mem_cons_self, fun e he => ?_⟩
  walk_at "l3"
  refine ifY rfl ?_
  walk_at "l3"
  refine u_l_kinds upd3_same fun p hp => ?_
  walk_at "l3"
  intro p2 hp2
  walk_at "l3"
  refine g_eqX (by walk_at "l3h") (by walk_at "l3h") (by decide +kernel) (by decide +kernel) ?_
  walk_at "l3"
  exact g_fin h (((Sub3.fresh he).trans (Sub3.fresh hp)).trans (Sub3.fresh hp2))

/-- .. of all crosses of the pairs -/
structure Cnt (ps : List Pt) (c : Int) : Prop where
  nn : 0 ≤ c
  dv : ∀ p ∈ ps, ∀ q ∈ ps, c ∣ crs p q
  gl : ∀ m : Int, (∀ p ∈ ps, ∀ q ∈ ps, m ∣ crs p q) → m ∣ c
theorem cut3_upto {α : Type} (xs : List α) (n : Nat) (h : n ≤ xs.length) : cut3 xs none (some (n : Int)) = xs.take n := by
  unfold cut3 HT.sIx
  simp only []
  rw [if_neg (by omega), Int.toNat_natCast, Nat.min_eq_left h, List.drop_zero, Nat.sub_zero]
theorem crs_swap (p q : Pt) : crs q p = -crs p q := by unfold crs; rw [Int.mul_comm q.1, Int.mul_comm q.2]; omega
theorem crs_self (p : Pt) : crs p p = 0 := by unfold crs; rw [Int.mul_comm]; omega
theorem dvd_grp (c : Int) (q : Pt) : Grp fun v => c ∣ crs v q where
  zero := by unfold crs; simp
  sub := fun u v hu hv => by
    unfold crs at hu hv ⊢
    have := Int.dvd_sub hu hv
    rw [show (u.1 - v.1, u.2 - v.2).1 * q.2 - (u.1 - v.1, u.2 - v.2).2 * q.1 = u.1 * q.2 - u.2 * q.1 - (v.1 * q.2 - v.2 * q.1) from by show (u.1 - v.1) * q.2 - (u.2 - v.2) * q.1 = _; rw [Int.sub_mul, Int.sub_mul]; omega]
    exact this
theorem dvd_grp' (c : Int) (q : Pt) : Grp fun v => c ∣ crs q v where
  zero := by unfold crs; simp
  sub := fun u v hu hv => by
    unfold crs at hu hv ⊢
    have := Int.dvd_sub hu hv
    rw [show q.1 * (u.1 - v.1, u.2 - v.2).2 - q.2 * (u.1 - v.1, u.2 - v.2).1 = q.1 * u.2 - q.2 * u.1 - (q.1 * v.2 - q.2 * v.1) from by show q.1 * (u.2 - v.2) - q.2 * (u.1 - v.1) = _; rw [Int.mul_sub, Int.mul_sub]; omega]
    exact this
theorem Cnt.grid {ps : List Pt} {c e b d : Int} (h : Cnt ps c) (g : GrOf ps e b d) : e * d = c := by
  have ed : crs (e, 0) (b, d) = e * d := by unfold crs; simp
  have p0 : 0 ≤ e * d := Int.mul_nonneg (by have := g.e0; omega) (by have := g.d0; omega)
  refine Int.dvd_antisymm p0 h.nn (h.gl _ fun p hp q hq => ?_) ?_
  · obtain ⟨k, hk⟩ := crs_in (g.ins p hp) (g.ins q hq)
    rw [ed] at hk
    exact ⟨k, by rw [hk, Int.mul_comm]⟩
  · have h1 : ∀ q ∈ ps, c ∣ crs (e, 0) q := fun q hq => (g.grp _ (dvd_grp c q) fun p hp => h.dv p hp q hq).1
    have h2 := (g.grp _ (dvd_grp' c (e, 0)) h1).2
    rw [← ed]; exact h2
theorem Cnt.flat {ps : List Pt} (h : Cnt ps 0) : ¬ Wide ps := fun ⟨p, hp, q, hq, z⟩ => z (Int.zero_dvd.mp (h.dv p hp q hq))
theorem Cnt.wide {ps : List Pt} {c : Int} (h : Cnt ps c) (hc : c ≠ 0) : Wide ps := Classical.byContradiction fun w => hc (Int.zero_dvd.mp (h.gl 0 fun p hp q hq => by
  have : crs p q = 0 := Classical.byContradiction fun z => w ⟨p, hp, q, hq, z⟩
  rw [this]; exact Int.dvd_zero 0))
def sp_l_right : Sp3 := fun ds H Q => match ds with
  | [.ref a, .int c] => ∃ ps : List Pt, (H a = some (.lst (ps.map prP)) ∧ ps.length ≤ 60 ∧ (∀ p ∈ ps, Bt 100 p.1 ∧ Bt 100 p.2) ∧ Cnt ps c ∧ Bt 400 c) ∧ Q (.bl true) H
  | _ => False
theorem u_l_right {a : Addr} {c : Int} (ps : List Pt) {H : Hp3} {Q : VK3} (ha : H a = some (.lst (ps.map prP))) (hl : ps.length ≤ 60) (hb : ∀ p ∈ ps, Bt 100 p.1 ∧ Bt 100 p.2) (hc : Cnt ps c) (bc : Bt 400 c) (h : Q (.bl true) H) : sp_l_right [.ref a, .int c] H Q := ⟨ps, ⟨ha, hl, hb, hc, bc⟩, h⟩
theorem len_l_right : ∀ (ds : List D) (H : Hp3) (Q : VK3), sp_l_right ds H Q → ds.length = P_l_right.length := by
  intro ds H Q h
  unfold sp_l_right at h
  split at h
  · rfl
  · exact h.elim

def t_l_right : TS3 := (sq3 (is3 (ts3 (o3 r3eq (v3 1) (c3 (.int 0)))) (rt3 (cb3 sp_l_refused (cons3 (v3 0) nil3))) nx3)
    (rt3 (cb3 sp_l_grid_of (cons3 (cbE sp_grid_of (cons3 (cb3 r3list (cons3 (v3 0) nil3)) nil3) noE) (cons3 (v3 0) (cons3 (v3 1) nil3))))))
theorem rd_l_right : ∀ (ds : List D) (H : Hp3) (Q : VK3), sp_l_right ds H Q → t_l_right (fin3 Q) (start3 N_l_right ds) H := by
  intro ds H Q h
  unfold sp_l_right at h
  split at h
  case h_2 => exact h.elim
  rename_i r c
  obtain ⟨ps, ⟨hr3, hlen, hb, hc, bc⟩, h⟩ := h
  have hb4 : ∀ u ∈ ps, Bt 400 u.1 ∧ Bt 400 u.2 := fun u hu => ⟨(hb u hu).1.mono (by decide), (hb u hu).2.mono (by decide)⟩
  simp only [t_l_right, start3, N_l_right, List.map_cons, List.map_nil, List.length_cons, List.length_nil, Nat.reduceAdd, Nat.reduceSub, Nat.zero_add, List.replicate, List.cons_append, List.nil_append]
  walk_at "l3"
  refine ifD (fun z => ?_) fun z => ?_
  · walk_at "l3"
    refine u_l_refused ps hr3 (by omega) hb4 (by rw [z] at hc; exact hc.flat) ?_
    walk_at "l3"
    exact g_fin h Sub3.refl
  · walk_at "l3"
    intro p2 hp2
    walk_at "l3"
    refine u_grid_of ps upd3_same (by omega) hb4 (fun hw e b d gr => ?_) fun hnw => absurd (hc.wide z) hnw
    have ed := hc.grid gr
    have e0 := gr.e0
    have d0 := gr.d0
    have le1 : e ≤ e * d := by have := Int.mul_le_mul_of_nonneg_left (show (1 : Int) ≤ d by omega) (show 0 ≤ e by omega); omega
    have le2 : d ≤ e * d := by have := Int.mul_le_mul_of_nonneg_right (show (1 : Int) ≤ e by omega) (show 0 ≤ d by omega); omega
    walk_at "l3"
    refine u_l_grid_of ps ⟨e0, gr.b0, gr.b1, d0, (bc.of_le (by omega)).mono (by decide), (bc.of_le (by omega)).mono (by decide)⟩ ed (by walk_at "l3h") (by omega) (fun p hp => ?_) ?_
    · obtain ⟨i, j, hi, hj⟩ := gr.ins p hp
      exact ⟨(hb p hp).1.mono (by decide), (hb p hp).2.mono (by decide), i, j, hi, by rw [hj]; show i * 0 + j * d = j * d; omega⟩
    walk_at "l3"
    exact g_fin h (Sub3.fresh hp2)

def sp_law : Sp3 := fun ds H Q => match ds with
  | [.fl xs] => (match intsOf xs with
    | some ns => ns.length ≤ 63 ∧ ∀ H' : Hp3, Q (.bl true) H'
    | none => False)
  | _ => False
theorem begin_law {ns : List Int} (h : ns.length ≤ 63) : sp_law [.fl (ns.map D.int)] (fun _ => none) (fun d _ => d = .bl true) := by
  simp only [sp_law, intsOf_map]
  exact ⟨h, fun _ => trivial⟩
/-- c: the greatest divisor of the numbers, whatever they are multiplied with -/
structure Gcm (cs : List Int) (c : Int) : Prop where
  nn : 0 ≤ c
  dv : ∀ x ∈ cs, c ∣ x
  gl : ∀ k m : Int, (∀ x ∈ cs, m ∣ x * k) → m ∣ c * k
theorem Gcm.nil : Gcm [] 0 := ⟨Int.le_refl _, by simp, fun k m _ => by rw [Int.zero_mul]; exact Int.dvd_zero m⟩
theorem Gcm.step {cs : List Int} {c x g : Int} (h : Gcm cs c) (m : Ms c x g) : Gcm (cs ++ [x]) g := by
  obtain ⟨i, hi⟩ := m.i1
  obtain ⟨j, hj⟩ := m.i2
  refine ⟨m.nn, fun y hy => ?_, fun k n hn => ?_⟩
  · rcases List.mem_append.mp hy with hy | hy
    · exact Int.dvd_trans ⟨i, by rw [hi, Int.mul_comm]⟩ (h.dv y hy)
    · rw [List.mem_singleton.mp hy]; exact ⟨j, by rw [hj, Int.mul_comm]⟩
  · have g1 : Grp fun p : Pt => n ∣ p.1 * k := ⟨by show n ∣ 0 * k; rw [Int.zero_mul]; exact Int.dvd_zero n, fun p q hp hq => by show n ∣ (p.1 - q.1) * k; rw [Int.sub_mul]; exact Int.dvd_sub hp hq⟩
    exact m.grp _ g1 (h.gl k n fun y hy => hn y (List.mem_append_left _ hy)) (hn x (List.mem_append_right _ (List.mem_singleton.mpr rfl)))
def mulP (l : Pt) (t : Int) : Pt := (t * l.1, t * l.2)
theorem crs_mm (l : Pt) (s t : Int) : crs (mulP l s) (mulP l t) = 0 := by
  unfold crs mulP
  show s * l.1 * (t * l.2) - s * l.2 * (t * l.1) = 0
  have : s * l.1 * (t * l.2) = s * l.2 * (t * l.1) := by
    rw [Int.mul_assoc s, Int.mul_assoc s]; congr 1
    rw [Int.mul_left_comm, Int.mul_comm l.1, ← Int.mul_left_comm]
  omega
theorem crs_ml (l m : Pt) (t : Int) : crs (mulP l t) m = t * crs l m := by
  unfold crs mulP
  show t * l.1 * m.2 - t * l.2 * m.1 = t * (l.1 * m.2 - l.2 * m.1)
  rw [Int.mul_sub, Int.mul_assoc, Int.mul_assoc]
theorem dvd_ab {m x : Int} (h : m ∣ x) : m ∣ (x.natAbs : Int) := Int.dvd_natAbs.mpr h
theorem cnt_line (l : Pt) (ts : List Int) : Cnt (ts.map (mulP l)) 0 := by
  refine ⟨Int.le_refl _, fun p hp q hq => ?_, fun m _ => Int.dvd_zero m⟩
  obtain ⟨s, _, rfl⟩ := List.mem_map.mp hp
  obtain ⟨t, _, rfl⟩ := List.mem_map.mp hq
  rw [crs_mm]; exact Int.dvd_zero 0
theorem cnt_more {l m : Pt} {ts : List Int} {ps : List Pt} {g : Int} (h : Gcm ts g) (hp : ∀ p, p ∈ ps ↔ p = m ∨ p ∈ ts.map (mulP l)) : Cnt ps (g * ((crs l m).natAbs : Int)) := by
  have key : ∀ t ∈ ts, g * ((crs l m).natAbs : Int) ∣ t * crs l m := fun t ht => Int.mul_dvd_mul (h.dv t ht) (Int.natAbs_dvd.mpr (Int.dvd_refl _))
  refine ⟨Int.mul_nonneg h.nn (by omega), fun p hp1 q hq1 => ?_, fun d hd => ?_⟩
  · rcases (hp p).mp hp1 with rfl | hp2 <;> rcases (hp q).mp hq1 with rfl | hq2
    · rw [crs_self]; exact Int.dvd_zero _
    · obtain ⟨t, ht, rfl⟩ := List.mem_map.mp hq2
      rw [crs_swap (mulP l t), crs_ml]; exact Int.dvd_neg.mpr (key t ht)
    · obtain ⟨t, ht, rfl⟩ := List.mem_map.mp hp2
      rw [crs_ml]; exact key t ht
    · obtain ⟨s, _, rfl⟩ := List.mem_map.mp hp2
      obtain ⟨t, _, rfl⟩ := List.mem_map.mp hq2
      rw [crs_mm]; exact Int.dvd_zero _
  · refine h.gl _ d fun t ht => ?_
    have := hd _ ((hp _).mpr (.inr (List.mem_map.mpr ⟨t, ht, rfl⟩))) _ ((hp m).mpr (.inl rfl))
    rw [crs_ml] at this
    rcases Int.natAbs_eq (crs l m) with e | e
    · rw [← e]; exact this
    · have e2 : ((crs l m).natAbs : Int) = - crs l m := by omega
      rw [e2, Int.mul_neg]; exact Int.dvd_neg.mpr this
theorem len_law : ∀ (ds : List D) (H : Hp3) (Q : VK3), sp_law ds H Q → ds.length = P_law.length := by
  intro ds H Q h
  unfold sp_law at h
  split at h
  · rfl
  · exact h.elim

def lp_law_0 : TS3 := fo3 (il3 (v3 4)) (gn3 8) (st3 7 (cb3 sp_l_divisor (cons3 (v3 7) (cons3 (v3 8) nil3))))
def t_law : TS3 := (sq3 (st3 1 (cb3 sp_l_cell_at (cons3 (v3 0) (cons3 (c3 (.int 0)) nil3))))
    (sq3 (st3 2 (o3 r3ix (ls3 (cons3 (c3 (.int 20)) (cons3 (c3 (.int 20)) (cons3 (o3 i3pow (c3 (.int 10)) (c3 (.int 20))) nil3)))) (o3 i3mod (v3 1) (c3 (.int 3)))))
    (sq3 (st3 3 (cp3 (il3 (ls3 (cons3 (c3 (.int 1)) (cons3 (c3 (.int 2)) nil3)))) (gn3 0) yes3 (o3 i3sub (o3 i3mod (cb3 sp_l_cell_at (cons3 (v3 2) (cons3 (v3 0) nil3))) (o3 r3add (o3 i3mulW (c3 (.int 2)) (v3 1)) (c3 (.int 1)))) (v3 1)) ["_law_k"] [(2, "_law_wide"), (0, "_law_script")]))
    (sq3 (st3 4 (cp3 (ir1 (o3 i3mod (o3 i3divW (v3 1) (c3 (.int 3))) (c3 (.int 6)))) (gn3 0) yes3 (o3 i3sub (o3 i3mod (cb3 sp_l_cell_at (cons3 (v3 1) (cons3 (o3 r3add (c3 (.int 5)) (v3 0)) nil3))) (c3 (.int 13))) (c3 (.int 6))) ["_law_k"] [(0, "_law_script")]))
    (sq3 (st3 5 (cp3 (il3 (v3 4)) (gn3 0) yes3 (tp3 (cons3 (o3 i3mulW (v3 0) (o3 r3ix (v3 1) (c3 (.int 0)))) (cons3 (o3 i3mulW (v3 0) (o3 r3ix (v3 1) (c3 (.int 1)))) nil3))) ["_law_many"] [(3, "_law_line")]))
    (sq3 (st3 6 (tp3 (cons3 (o3 i3sub (o3 i3mod (cb3 sp_l_cell_at (cons3 (v3 0) (cons3 (c3 (.int 3)) nil3))) (c3 (.int 41))) (c3 (.int 20))) (cons3 (o3 i3sub (o3 i3mod (cb3 sp_l_cell_at (cons3 (v3 0) (cons3 (c3 (.int 4)) nil3))) (c3 (.int 41))) (c3 (.int 20))) nil3))))
    (sq3 (st3 7 (c3 (.int 0)))
    (sq3 lp_law_0
    (sq3 (is3 (no3 (ts3 (cb3 sp_l_right (cons3 (v3 5) (cons3 (c3 (.int 0)) nil3))))) (rt3 (c3 (.bl false))) nx3)
    (sq3 (dr3 (m3 r3ins (v3 5) (cons3 (o3 i3mod (cb3 sp_l_cell_at (cons3 (v3 0) (cons3 (c3 (.int 10)) nil3))) (o3 r3add (cb3 r3len (cons3 (v3 5) nil3)) (c3 (.int 1)))) (cons3 (v3 6) nil3))))
    (rt3 (cb3 sp_l_right (cons3 (v3 5) (cons3 (o3 i3mulW (v3 7) (cb3 r3abs (cons3 (o3 i3sub (o3 i3mulW (o3 r3ix (v3 3) (c3 (.int 0))) (o3 r3ix (v3 6) (c3 (.int 1)))) (o3 i3mulW (o3 r3ix (v3 3) (c3 (.int 1))) (o3 r3ix (v3 6) (c3 (.int 0))))) nil3))) nil3))))))))))))))
theorem rd_law : ∀ (ds : List D) (H : Hp3) (Q : VK3), sp_law ds H Q → t_law (fin3 Q) (start3 N_law ds) H := by
  intro ds H Q h
  unfold sp_law at h
  split at h
  case h_2 => exact h.elim
  rename_i xs
  split at h
  case h_2 => exact h.elim
  rename_i ns e
  have e' := intsOf_inv e
  subst e'
  obtain ⟨hl, h⟩ := h
  simp only [t_law, start3, N_law, List.map_cons, List.map_nil, List.length_cons, List.length_nil, Nat.reduceAdd, Nat.reduceSub, Nat.zero_add, List.replicate, List.cons_append, List.nil_append]
  walk_at "l3"
  intro p0 hp0
  walk_at "l3"
  have hw : ∃ w : Int, atI [D.int 20, D.int 20, D.int (10 ^ Int.toNat 20)] (cat ns (Int.toNat 0) % 3) = some (.int w) ∧ 9 ≤ w ∧ Bt 90 w := by
    have : cat ns (Int.toNat 0) % 3 = 0 ∨ cat ns (Int.toNat 0) % 3 = 1 ∨ cat ns (Int.toNat 0) % 3 = 2 := by omega
    rcases this with z | z | z
    · exact ⟨20, by rw [z]; rfl, by decide, by unfold Bt; decide⟩
    · exact ⟨20, by rw [z]; rfl, by decide, by unfold Bt; decide⟩
    · exact ⟨10 ^ Int.toNat 20, by rw [z]; rfl, by decide, by unfold Bt; decide⟩
  obtain ⟨w, hwi, w9, bw⟩ := hw
  refine g_ixL upd3_same hwi ?_
  walk_at "l3"
  intro p1 hp1
  walk_at "l3"
  have bx : ∀ c : Int, Bt 90 (c % (2 * w + 1) - w) := fun c => by
    have h1 := Int.emod_nonneg c (b := 2 * w + 1) (by omega)
    have h2 := Int.emod_lt_of_pos c (b := 2 * w + 1) (by omega)
    exact bw.of_le (by omega)
  refine Cp.map (as := [1, 2]) (E := D.int) (fun k => D.int (cat ns k.toNat % (2 * w + 1) - w)) (fun H2 hs => hs _ _ upd3_same) (by decide) ?_ ?_
  · intro i x hx R H2 hs hR
    have hx12 : x = 1 ∨ x = 2 := by simpa using List.mem_of_getElem? hx
    walk_at "l3"
    exact hR H2 Sub3.refl
  intro p2 hp2
  have e12 : List.map (fun k : Int => D.int (cat ns k.toNat % (2 * w + 1) - w)) [1, 2] = [D.int (cat ns 1 % (2 * w + 1) - w), D.int (cat ns 2 % (2 * w + 1) - w)] := rfl
  rw [e12]
  have bx0 := bx (cat ns 1)
  have bx1 := bx (cat ns 2)
  generalize cat ns 1 % (2 * w + 1) - w = x0 at bx0
  generalize cat ns 2 % (2 * w + 1) - w = x1 at bx1
  walk_at "l3"
  have hk : (cat ns (Int.toNat 0) / 3 % 6).toNat ≤ 5 := by omega
  generalize hK : (cat ns (Int.toNat 0) / 3 % 6).toNat = K at hk
  refine Cp.map (as := List.range K) (E := fun i : Nat => D.int (0 + (i : Int))) (fun i => D.int (cat ns (5 + (0 + (i : Int))).toNat % 13 - 6)) (fun _ _ => trivial) (by rw [List.length_range]; omega) ?_ ?_
  · intro i x hx R H2 hs hR
    have hxK : x < K := List.mem_range.mp (List.mem_of_getElem? hx)
    walk_at "l3"
    exact hR H2 Sub3.refl
  intro p3 hp3
  have et : (List.range K).map (fun i : Nat => D.int (cat ns (5 + (0 + (i : Int))).toNat % 13 - 6)) = ((List.range K).map fun i : Nat => cat ns (5 + (0 + (i : Int))).toNat % 13 - 6).map D.int := by rw [List.map_map]; rfl
  rw [et]
  have bt : ∀ t ∈ (List.range K).map fun i : Nat => cat ns (5 + (0 + (i : Int))).toNat % 13 - 6, Bt 8 t := fun t ht => by
    obtain ⟨i, _, rfl⟩ := List.mem_map.mp ht
    unfold Bt; omega
  have lt : ((List.range K).map fun i : Nat => cat ns (5 + (0 + (i : Int))).toNat % 13 - 6).length ≤ 5 := by rw [List.length_map, List.length_range]; exact hk
  generalize ((List.range K).map fun i : Nat => cat ns (5 + (0 + (i : Int))).toNat % 13 - 6) = ts at bt lt
  walk_at "l3"
  refine Cp.mapP (fun t => mulP (x0, x1) t) (fun H2 hs => hs _ _ upd3_same) (by omega) ?_ ?_
  · intro i t ht R H2 hs hR
    have b := bt t (List.mem_of_getElem? ht)
    walk_at "l3"
    refine g_ixL (hs _ _ (by walk_at "l3h")) rfl ?_
    walk_at "l3"
    refine g_ixL (hs _ _ (by walk_at "l3h")) rfl ?_
    walk_at "l3"
    exact hR H2 Sub3.refl
  intro p4 hp4
  walk_at "l3"
  unfold lp_law_0
  dsimp only [List.set_cons_zero, List.set_cons_succ]
  have bm1 : Bt 8 (cat ns (Int.toNat 3) % 41 - 20) := by unfold Bt; omega
  have bm2 : Bt 8 (cat ns (Int.toNat 4) % 41 - 20) := by unfold Bt; omega
  generalize cat ns (Int.toNat 3) % 41 - 20 = m1 at bm1
  generalize cat ns (Int.toNat 4) % 41 - 20 = m2 at bm2
  generalize hH : upd3 (upd3 _ p3 (O3.lst (List.map D.int ts))) p4 _ = H9
  have k2 : H9 p2 = some (.lst [.int x0, .int x1]) := by rw [← hH]; exact upd3_old (upd3_old upd3_same hp3) hp4
  have k3 : H9 p3 = some (.lst (ts.map D.int)) := by rw [← hH]; exact upd3_old upd3_same hp4
  have k4 : H9 p4 = some (.lst ((ts.map fun t => mulP (x0, x1) t).map prP)) := by rw [← hH]; exact upd3_same
  clear hH
  walk_at "l3"
  refine Lp.by (fun i σ H2 => H2 = H9 ∧ ∃ c : Int, ∃ y, Gcm (ts.take i) c ∧ Bt 8 c ∧ σ = [some (.fl (ns.map D.int)), some (.int (cat ns (Int.toNat 0))), some (.int w), some (.ref p2), some (.ref p3), some (.ref p4), some (.tup [.int m1, .int m2]), some (.int c), y]) ⟨rfl, 0, _, Gcm.nil, by unfold Bt; decide, rfl⟩ (fun i σ H2 _ z => by rw [z.1]; exact k3) ?_ ?_
  · rintro i dd σ H2 hd ⟨rfl, c, y, hg, bc, rfl⟩
    rw [List.getElem?_map, Option.map_eq_some_iff] at hd
    obtain ⟨t, ht, rfl⟩ := hd
    have htk : ts.take (i + 1) = ts.take i ++ [t] := by rw [List.take_add_one, ht]; rfl
    walk_at "l3"
    refine u_l_divisor fun g hm => ?_
    walk_at "l3"
    refine ⟨rfl, g, _, ?_, hm.bt bc (bt t (List.mem_of_getElem? ht)), rfl⟩
    rw [htk]; exact hg.step hm
  · rintro σ H2 ⟨rfl, c, y, hg, bc, rfl⟩
    rw [List.length_map, List.take_of_length_le (Nat.le_refl _)] at hg
    have bsh : ∀ p ∈ ts.map (fun t => mulP (x0, x1) t), Bt 100 p.1 ∧ Bt 100 p.2 := fun p hp => by
      obtain ⟨t, ht, rfl⟩ := List.mem_map.mp hp
      exact ⟨(Bt.mul (bt t ht) bx0).mono (by decide), (Bt.mul (bt t ht) bx1).mono (by decide)⟩
    have lsh : (ts.map (fun t => mulP (x0, x1) t)).length ≤ 5 := by rw [List.length_map]; exact lt
    walk_at "l3"
    refine u_l_right _ k4 (by omega) bsh (cnt_line (x0, x1) ts) (by unfold Bt; exact Nat.two_pow_pos _) ?_
    walk_at "l3"
    refine ifX rfl ?_
    walk_at "l3"
    rw [List.length_map]
    have j0 := Int.emod_nonneg (cat ns (Int.toNat 10)) (b := (ts.map (fun t => mulP (x0, x1) t)).length + 1) (by omega)
    have j1 := Int.emod_lt_of_pos (cat ns (Int.toNat 10)) (b := (ts.map (fun t => mulP (x0, x1) t)).length + 1) (by omega)
    generalize hj : cat ns (Int.toNat 10) % (((ts.map (fun t => mulP (x0, x1) t)).length : Int) + 1) = j at j0 j1
    generalize hS : ts.map (fun t => mulP (x0, x1) t) = S at k4 bsh lsh j1
    walk_at "l3"
    refine g_ins k4 ⟨j0, by rw [List.length_map]; omega⟩ (by rw [List.length_map]; omega) ?_
    have eS : (S.map prP).take j.toNat ++ D.tup [.int m1, .int m2] :: (S.map prP).drop j.toNat = (S.take j.toNat ++ (m1, m2) :: S.drop j.toNat).map prP := by rw [List.map_append, List.map_cons, List.map_take, List.map_drop]; rfl
    rw [eS]
    have hmem : ∀ p, p ∈ S.take j.toNat ++ (m1, m2) :: S.drop j.toNat ↔ p = (m1, m2) ∨ p ∈ S := fun p => by
      have h1 : p ∈ S ↔ p ∈ S.take j.toNat ∨ p ∈ S.drop j.toNat := by rw [← List.mem_append, List.take_append_drop]
      rw [h1, List.mem_append, List.mem_cons]
      constructor
      · rintro (z | z | z)
        · exact .inr (.inl z)
        · exact .inl z
        · exact .inr (.inr z)
      · rintro (z | z | z)
        · exact .inr (.inl z)
        · exact .inl z
        · exact .inr (.inr z)
    have p24 : p2 ≠ p4 := by
      rintro rfl
      rw [k2] at k4
      cases S with
      | nil => cases k4
      | cons a r =>
        simp only [List.map_cons, Option.some.injEq, O3.lst.injEq, List.cons.injEq] at k4
        exact absurd k4.1 (by intro z; cases z)
    have k2' : upd3 H2 p4 (.lst ((S.take j.toNat ++ (m1, m2) :: S.drop j.toNat).map prP)) p2 = some (.lst [.int x0, .int x1]) := by rw [upd3_ne p24]; exact k2
    walk_at "l3"
    refine g_ixL k2' rfl ?_
    walk_at "l3"
    refine g_ixL k2' rfl ?_
    walk_at "l3"
    refine g_abs ?_
    have bcr : Bt 101 (x0 * m2 - x1 * m1) := (Bt.sub (Bt.mul bx0 bm2) (Bt.mul bx1 bm1)).mono (by decide)
    have bab : Bt 101 ((x0 * m2 - x1 * m1).natAbs : Int) := bcr.of_le (by omega)
    rw [show (if x0 * m2 - x1 * m1 < 0 then -(x0 * m2 - x1 * m1) else x0 * m2 - x1 * m1) = ((x0 * m2 - x1 * m1).natAbs : Int) from by split <;> omega]
    walk_at "l3"
    refine u_l_right (S.take j.toNat ++ (m1, m2) :: S.drop j.toNat) upd3_same ?_ ?_ ?_ ((Bt.mul bc bab).mono (by decide)) ?_
    · rw [List.length_append, List.length_cons, List.length_take, List.length_drop]; omega
    · intro p hp
      rcases (hmem p).mp hp with rfl | hp
      · exact ⟨bm1.mono (by decide), bm2.mono (by decide)⟩
      · exact bsh p hp
    · exact cnt_more (l := (x0, x1)) (m := (m1, m2)) hg fun p => by rw [hmem p, ← hS]
    · exact g_fin (h _) Sub3.refl

def top (i : Nat) : Stmt := PySem.Challenge.pw_borderfloor_k24_no_grid.main.body.getD i (.Pass ⟨0, 0, 0, 0⟩)
abbrev s_common_measure : Stmt := top 17
abbrev s_levelled : Stmt := top 18
abbrev s_grid_of : Stmt := top 19
abbrev s_l_cell_at : Stmt := top 21
abbrev s_l_whole : Stmt := top 22
abbrev s_l_numbers_of : Stmt := top 24
abbrev s_l_divisor : Stmt := top 25
abbrev s_l_grid_of : Stmt := top 26
abbrev s_l_kinds : Stmt := top 27
abbrev s_l_refused : Stmt := top 28
abbrev s_l_right : Stmt := top 29
abbrev s_law : Stmt := top 30
theorem sc_common_measure : FnScope N_common_measure P_common_measure (defScope s_common_measure) := ⟨rfl, rfl, rfl, by decide +kernel, rfl, by decide +kernel, by decide +kernel⟩
theorem sc_levelled : FnScope N_levelled P_levelled (defScope s_levelled) := ⟨rfl, rfl, rfl, by decide +kernel, rfl, by decide +kernel, by decide +kernel⟩
theorem sc_grid_of : FnScope N_grid_of P_grid_of (defScope s_grid_of) := ⟨rfl, rfl, rfl, by decide +kernel, rfl, by decide +kernel, by decide +kernel⟩
theorem sc_l_cell_at : FnScope N_l_cell_at P_l_cell_at (defScope s_l_cell_at) := ⟨rfl, rfl, rfl, by decide +kernel, rfl, by decide +kernel, by decide +kernel⟩
theorem sc_l_whole : FnScope N_l_whole P_l_whole (defScope s_l_whole) := ⟨rfl, rfl, rfl, by decide +kernel, rfl, by decide +kernel, by decide +kernel⟩
theorem sc_l_numbers_of : FnScope N_l_numbers_of P_l_numbers_of (defScope s_l_numbers_of) := ⟨rfl, rfl, rfl, by decide +kernel, rfl, by decide +kernel, by decide +kernel⟩
theorem sc_l_divisor : FnScope N_l_divisor P_l_divisor (defScope s_l_divisor) := ⟨rfl, rfl, rfl, by decide +kernel, rfl, by decide +kernel, by decide +kernel⟩
theorem sc_l_grid_of : FnScope N_l_grid_of P_l_grid_of (defScope s_l_grid_of) := ⟨rfl, rfl, rfl, by decide +kernel, rfl, by decide +kernel, by decide +kernel⟩
theorem sc_l_kinds : FnScope N_l_kinds P_l_kinds (defScope s_l_kinds) := ⟨rfl, rfl, rfl, by decide +kernel, rfl, by decide +kernel, by decide +kernel⟩
theorem sc_l_refused : FnScope N_l_refused P_l_refused (defScope s_l_refused) := ⟨rfl, rfl, rfl, by decide +kernel, rfl, by decide +kernel, by decide +kernel⟩
theorem sc_l_right : FnScope N_l_right P_l_right (defScope s_l_right) := ⟨rfl, rfl, rfl, by decide +kernel, rfl, by decide +kernel, by decide +kernel⟩
theorem sc_law : FnScope N_law P_law (defScope s_law) := ⟨rfl, rfl, rfl, by decide +kernel, rfl, by decide +kernel, by decide +kernel⟩
structure Tx (K : PySem.W.Frag) (mg : Str → Option Value) (w : World) : Prop where
  f_common_measure : ∃ f fd, Fun K "common_measure" "common_measure" s_common_measure f fd ∧ mg "common_measure" = some (.ref f) ∧ Binds K fd P_common_measure []
  f_levelled : ∃ f fd, Fun K "levelled" "levelled" s_levelled f fd ∧ mg "levelled" = some (.ref f) ∧ Binds K fd P_levelled []
  f_grid_of : ∃ f fd, Fun K "grid_of" "grid_of" s_grid_of f fd ∧ mg "grid_of" = some (.ref f) ∧ Binds K fd P_grid_of []
  f_l_cell_at : ∃ f fd, Fun K "_law_cell_at" "_law_cell_at" s_l_cell_at f fd ∧ mg "_law_cell_at" = some (.ref f) ∧ Binds K fd P_l_cell_at []
  f_l_whole : ∃ f fd, Fun K "_law_whole" "_law_whole" s_l_whole f fd ∧ mg "_law_whole" = some (.ref f) ∧ Binds K fd P_l_whole []
  f_l_numbers_of : ∃ f fd, Fun K "_law_numbers_of" "_law_numbers_of" s_l_numbers_of f fd ∧ mg "_law_numbers_of" = some (.ref f) ∧ Binds K fd P_l_numbers_of []
  f_l_divisor : ∃ f fd, Fun K "_law_divisor" "_law_divisor" s_l_divisor f fd ∧ mg "_law_divisor" = some (.ref f) ∧ Binds K fd P_l_divisor []
  f_l_grid_of : ∃ f fd, Fun K "_law_grid_of" "_law_grid_of" s_l_grid_of f fd ∧ mg "_law_grid_of" = some (.ref f) ∧ Binds K fd P_l_grid_of []
  f_l_kinds : ∃ f fd, Fun K "_law_kinds" "_law_kinds" s_l_kinds f fd ∧ mg "_law_kinds" = some (.ref f) ∧ Binds K fd P_l_kinds []
  f_l_refused : ∃ f fd, Fun K "_law_refused" "_law_refused" s_l_refused f fd ∧ mg "_law_refused" = some (.ref f) ∧ Binds K fd P_l_refused []
  f_l_right : ∃ f fd, Fun K "_law_right" "_law_right" s_l_right f fd ∧ mg "_law_right" = some (.ref f) ∧ Binds K fd P_l_right []
  m_ValueError : mg "ValueError" = none
  m_abs : mg "abs" = none
  m_all : mg "all" = none
  m_bool : mg "bool" = none
  m_int : mg "int" = none
  m_isinstance : mg "isinstance" = none
  m_len : mg "len" = none
  m_list : mg "list" = none
  m_range : mg "range" = none
  m_tuple : mg "tuple" = none
  x_NoGrid : ExcOk K "NoGrid"
  s_NoGrid_FloorError : SubX K "NoGrid" "FloorError"
  i_NoGrid_Apart : IsX K "NoGrid" "Apart" false
  i_NoGrid_Backward : IsX K "NoGrid" "Backward" false
  i_NoGrid_Crossed : IsX K "NoGrid" "Crossed" false
  i_NoGrid_Hole : IsX K "NoGrid" "Hole" false
  i_NoGrid_NoDrawing : IsX K "NoGrid" "NoDrawing" false
  i_NoGrid_NoFloor : IsX K "NoGrid" "NoFloor" false
  i_NoGrid_NoGrid : IsX K "NoGrid" "NoGrid" true
  i_NoGrid_NoLine : IsX K "NoGrid" "NoLine" false
  i_NoGrid_NoPiece : IsX K "NoGrid" "NoPiece" false
  i_NoGrid_NoWord : IsX K "NoGrid" "NoWord" false
  i_NoGrid_NotAsMany : IsX K "NoGrid" "NotAsMany" false
  i_NoGrid_Nothing : IsX K "NoGrid" "Nothing" false
  i_NoGrid_Open : IsX K "NoGrid" "Open" false
  i_NoGrid_TooMany : IsX K "NoGrid" "TooMany" false
  i_NoGrid_ValueError : IsB K "NoGrid" "ValueError" true
section
variable {P : Program} {w : World} {K : PySem.W.Frag} {mg : Str → Option Value} {base : Heap}
theorem ok_common_measure (T : Tx K mg w) : Fn P w K mg base 1 "common_measure" P_common_measure sp_common_measure := by
  obtain ⟨f, fd, F, hm, hb⟩ := T.f_common_measure
  exact fn3 F sc_common_measure hm hb len_common_measure fun cdv A outer s H E hr => ⟨t_common_measure, (s3_cons (s3_while PassesOwn.never (p3_tcmp (op3_ne hr.units) (p3_var 1) p3_int) (s3_cons (s3_set 2 sc_common_measure.nd (p3_op op3_modN (p3_var 0) (p3_var 1)))
      (s3_cons (s3_set 0 sc_common_measure.nd (p3_var 1))
      (s3_one (s3_set 1 sc_common_measure.nd (p3_var 2))))))
      (s3_one (s3_ret (p3_callB cb3_abs rfl T.m_abs (by rfl) (a3_cons (p3_var 0) a3_nil))))), rd_common_measure⟩

theorem ok_levelled (T : Tx K mg w) : Fn P w K mg base 1 "levelled" P_levelled sp_levelled := by
  obtain ⟨f, fd, F, hm, hb⟩ := T.f_levelled
  exact fn3 F sc_levelled hm hb len_levelled fun cdv A outer s H E hr => ⟨t_levelled, (s3_cons (s3_while PassesOwn.never (p3_tcmp (op3_ne hr.units) (p3_ix ix3 (p3_var 1) p3_int) p3_int) (s3_cons (s3_set 2 sc_levelled.nd (p3_op op3_fdivN (p3_ix ix3 (p3_var 0) p3_int) (p3_ix ix3 (p3_var 1) p3_int)))
      (s3_cons (s3_set 3 sc_levelled.nd (p3_tup (a3_cons (p3_op op3_sub (p3_ix ix3 (p3_var 0) p3_int) (p3_op op3_mulW (p3_var 2) (p3_ix ix3 (p3_var 1) p3_int))) (a3_cons (p3_op op3_sub (p3_ix ix3 (p3_var 0) p3_int) (p3_op op3_mulW (p3_var 2) (p3_ix ix3 (p3_var 1) p3_int))) a3_nil))))
      (s3_cons (s3_set 0 sc_levelled.nd (p3_var 1))
      (s3_one (s3_set 1 sc_levelled.nd (p3_var 3)))))))
      (s3_one (s3_ret (p3_tup (a3_cons (p3_var 0) (a3_cons (p3_var 1) a3_nil)))))), rd_levelled⟩

theorem ok_l_cell_at (T : Tx K mg w) : Fn P w K mg base 1 "_law_cell_at" P_l_cell_at sp_l_cell_at := by
  obtain ⟨f, fd, F, hm, hb⟩ := T.f_l_cell_at
  exact fn3 F sc_l_cell_at hm hb len_l_cell_at fun cdv A outer s H E hr => ⟨t_l_cell_at, (s3_cons (s3_if (p3_tcmp (op3_lt hr.units0) (p3_var 1) (p3_callB cb3_len rfl T.m_len (by rfl) (a3_cons (p3_var 0) a3_nil))) (s3_one (s3_ret (p3_ix ix3 (p3_var 0) (p3_var 1)))) s3_nil)
      (s3_cons (s3_if (p3_tcmp (op3_eq hr.units) (p3_callB cb3_len rfl T.m_len (by rfl) (a3_cons (p3_var 0) a3_nil)) p3_int) (s3_one (s3_ret p3_int)) s3_nil)
      (s3_one (s3_ret (p3_op op3_mod (p3_op op3_add (p3_op op3_mulW (p3_op op3_mod (p3_ix ix3 (p3_var 0) (p3_op op3_mod (p3_var 1) (p3_callB cb3_len rfl T.m_len (by rfl) (a3_cons (p3_var 0) a3_nil)))) p3_int) p3_int) (p3_op op3_mulW (p3_op op3_mulW (p3_var 1) (p3_var 1)) p3_int)) p3_int))))), rd_l_cell_at⟩

theorem ok_l_whole (T : Tx K mg w) : Fn P w K mg base 1 "_law_whole" P_l_whole sp_l_whole := by
  obtain ⟨f, fd, F, hm, hb⟩ := T.f_l_whole
  exact fn3 F sc_l_whole hm hb len_l_whole fun cdv A outer s H E hr => ⟨t_l_whole, (s3_one (s3_ret (p3_and (p3_callB cb3_isi rfl T.m_isinstance (by rfl) (a3_cons (p3_var 0) (a3_cons (p3_ty rfl T.m_int (by rfl)) a3_nil))) (p3_one (p3_not (p3_callB cb3_isi rfl T.m_isinstance (by rfl) (a3_cons (p3_var 0) (a3_cons (p3_ty rfl T.m_bool (by rfl)) a3_nil)))))))), rd_l_whole⟩

theorem ok_l_numbers_of (T : Tx K mg w) : Fn P w K mg base 1 "_law_numbers_of" P_l_numbers_of sp_l_numbers_of := by
  obtain ⟨f, fd, F, hm, hb⟩ := T.f_l_numbers_of
  exact fn3 F sc_l_numbers_of hm hb len_l_numbers_of fun cdv A outer s H E hr => ⟨t_l_numbers_of, (s3_cons (s3_if (p3_tcmp (op3_ne hr.units) (p3_op op3_mod (p3_ix ix3 (p3_var 1) p3_int) (p3_ix ix3 (p3_var 0) p3_int)) p3_int) (s3_one (s3_ret p3_non)) s3_nil)
      (s3_cons (s3_set 2 sc_l_numbers_of.nd (p3_op op3_fdivW (p3_ix ix3 (p3_var 1) p3_int) (p3_ix ix3 (p3_var 0) p3_int)))
      (s3_cons (s3_if (p3_tcmp (op3_ne hr.units) (p3_op op3_mod (p3_op op3_sub (p3_ix ix3 (p3_var 1) p3_int) (p3_op op3_mulW (p3_var 2) (p3_ix ix3 (p3_var 0) p3_int))) (p3_ix ix3 (p3_var 0) p3_int)) p3_int) (s3_one (s3_ret p3_non)) s3_nil)
      (s3_one (s3_ret (p3_tup (a3_cons (p3_op op3_fdivW (p3_op op3_sub (p3_ix ix3 (p3_var 1) p3_int) (p3_op op3_mulW (p3_var 2) (p3_ix ix3 (p3_var 0) p3_int))) (p3_ix ix3 (p3_var 0) p3_int)) (a3_cons (p3_var 2) a3_nil)))))))), rd_l_numbers_of⟩

theorem ok_l_divisor (T : Tx K mg w) : Fn P w K mg base 1 "_law_divisor" P_l_divisor sp_l_divisor := by
  obtain ⟨f, fd, F, hm, hb⟩ := T.f_l_divisor
  exact fn3 F sc_l_divisor hm hb len_l_divisor fun cdv A outer s H E hr => ⟨t_l_divisor, (s3_cons (s3_while PassesOwn.never (p3_tcmp (op3_ne hr.units) (p3_var 1) p3_int) (s3_one (s3_par (i := 0) (j := 1) rfl sc_l_divisor.nd (p3_var 1) (p3_op op3_modN (p3_var 0) (p3_var 1)))))
      (s3_one (s3_ret (p3_callB cb3_abs rfl T.m_abs (by rfl) (a3_cons (p3_var 0) a3_nil))))), rd_l_divisor⟩

theorem ok_l_kinds (T : Tx K mg w) : Fn P w K mg base 1 "_law_kinds" P_l_kinds sp_l_kinds := by
  obtain ⟨f, fd, F, hm, hb⟩ := T.f_l_kinds
  exact fn3 F sc_l_kinds hm hb len_l_kinds fun cdv A outer s H E hr => ⟨t_l_kinds, (s3_cons (s3_set 1 sc_l_kinds.nd (p3_lst (a3_cons (p3_isx (isx_cons T.i_NoGrid_NoPiece isx_nil) T.m_isinstance (p3_var 0)) (a3_cons (p3_isx (isx_cons T.i_NoGrid_TooMany isx_nil) T.m_isinstance (p3_var 0)) (a3_cons (p3_isx (isx_cons T.i_NoGrid_Apart isx_nil) T.m_isinstance (p3_var 0)) (a3_cons (p3_isx (isx_cons T.i_NoGrid_Hole isx_nil) T.m_isinstance (p3_var 0)) a3_nil))))))
      (s3_cons (s3_set 1 sc_l_kinds.nd (p3_op op3_add (p3_var 1) (p3_lst (a3_cons (p3_isx (isx_cons T.i_NoGrid_NoDrawing isx_nil) T.m_isinstance (p3_var 0)) (a3_cons (p3_isx (isx_cons T.i_NoGrid_Backward isx_nil) T.m_isinstance (p3_var 0)) (a3_cons (p3_isx (isx_cons T.i_NoGrid_NoGrid isx_nil) T.m_isinstance (p3_var 0)) (a3_cons (p3_isx (isx_cons T.i_NoGrid_NotAsMany isx_nil) T.m_isinstance (p3_var 0)) a3_nil)))))))
      (s3_cons (s3_set 1 sc_l_kinds.nd (p3_op op3_add (p3_var 1) (p3_lst (a3_cons (p3_isx (isx_cons T.i_NoGrid_NoFloor isx_nil) T.m_isinstance (p3_var 0)) (a3_cons (p3_isx (isx_cons T.i_NoGrid_NoLine isx_nil) T.m_isinstance (p3_var 0)) (a3_cons (p3_isx (isx_cons T.i_NoGrid_Nothing isx_nil) T.m_isinstance (p3_var 0)) (a3_cons (p3_isx (isx_cons T.i_NoGrid_NoWord isx_nil) T.m_isinstance (p3_var 0)) a3_nil)))))))
      (s3_cons (s3_set 1 sc_l_kinds.nd (p3_op op3_add (p3_var 1) (p3_lst (a3_cons (p3_isx (isx_cons T.i_NoGrid_Crossed isx_nil) T.m_isinstance (p3_var 0)) (a3_cons (p3_isx (isx_cons T.i_NoGrid_Open isx_nil) T.m_isinstance (p3_var 0)) a3_nil)))))
      (s3_cons (s3_set 2 sc_l_kinds.nd (p3_lst (a3_cons p3_str (a3_cons p3_str (a3_cons p3_str (a3_cons p3_str (a3_cons p3_str (a3_cons p3_str (a3_cons p3_str (a3_cons p3_str (a3_cons p3_str (a3_cons p3_str a3_nil))))))))))))
      (s3_cons (s3_set 2 sc_l_kinds.nd (p3_op op3_add (p3_var 2) (p3_lst (a3_cons p3_str (a3_cons p3_str (a3_cons p3_str (a3_cons p3_str a3_nil)))))))
      (s3_cons (s3_if (p3_tnot (p3_tval (p3_isb (T := "ValueError") (isx_cons T.i_NoGrid_ValueError isx_nil) T.m_isinstance (p3_var 0) T.m_ValueError (by rfl)))) (s3_one (s3_ret (p3_lst (a3_cons p3_str a3_nil)))) s3_nil)
      (s3_one (s3_ret (p3_comp (fv := [(1, "_law_told"), (2, "_law_names")]) (by show CompOk (defScope s_l_kinds) N_l_kinds _ _ _ _; exact ⟨rfl, by decide +kernel, by decide +kernel, by decide +kernel, rfl, by decide +kernel, by decide +kernel⟩) rfl (i3_rng1 T.m_range p3_int) (fun pins cl s1 H1 fp => (ifs3_one (p3_tval (p3_ix ix3 (p3_var 1) (p3_var 0))))) (fun pins cl s1 H1 fp => (p3_ix ix3 (p3_var 2) (p3_var 0))))))))))))), rd_l_kinds⟩

theorem okE_grid_of (T : Tx K mg w) : FnE P w K mg base 2 "grid_of" P_grid_of sp_grid_of := by
  obtain ⟨f, fd, F, hm, hb⟩ := T.f_grid_of
  exact fnE3' (t := t_grid_of) F sc_grid_of hm hb len_grid_of (fun cdv A outer s H E E3 hr kx => (s3_cons (s3_nox (s3_set 1 sc_grid_of.nd p3_int))
      (s3_cons (s3_nox (s3_set 2 sc_grid_of.nd (p3_tup (a3_cons p3_int (a3_cons p3_int a3_nil)))))
      (s3_cons (s3_nox (s3_for PassesOwn.never rfl (i3_list (p3_var 0)) (g3_name 3 sc_grid_of.nd) (s3_cons (s3_nox (s3_set 4 sc_grid_of.nd (p3_call (ok_levelled T) (hr.mono (by decide)) (a3_cons (p3_var 2) (a3_cons (p3_var 3) a3_nil)))))
      (s3_cons (s3_nox (s3_set 2 sc_grid_of.nd (p3_ix ix3 (p3_var 4) p3_int)))
      (s3_cons (s3_nox (s3_set 1 sc_grid_of.nd (p3_call (ok_common_measure T) (hr.mono (by decide)) (a3_cons (p3_var 1) (a3_cons (p3_ix ix3 (p3_ix ix3 (p3_var 4) p3_int) p3_int) a3_nil)))))
      (s3_one (s3_nox (s3_if (p3_tcmp (op3_ne hr.units) (p3_var 1) p3_int) (s3_one (s3_nox (s3_set 2 sc_grid_of.nd (p3_tup (a3_cons (p3_op op3_mod (p3_ix ix3 (p3_var 2) p3_int) (p3_var 1)) (a3_cons (p3_ix ix3 (p3_var 2) p3_int) a3_nil)))))) s3_nil))))))))
      (s3_cons (s3_if (t3_nox (p3_tw (p3_wor (p3_tcmp (op3_eq hr.units) (p3_var 1) p3_int) (p3_wor1 (p3_tcmp (op3_eq hr.units) (p3_ix ix3 (p3_var 2) p3_int) p3_int))))) (s3_one (s3_raise rises_def kx T.x_NoGrid rfl p3_str)) s3_nil)
      (s3_cons (s3_nox (s3_if (p3_tcmp (op3_lt hr.units0) (p3_ix ix3 (p3_var 2) p3_int) p3_int) (s3_one (s3_nox (s3_set 2 sc_grid_of.nd (p3_tup (a3_cons (p3_op op3_mod (p3_un un3_neg (p3_ix ix3 (p3_var 2) p3_int)) (p3_var 1)) (a3_cons (p3_un un3_neg (p3_ix ix3 (p3_var 2) p3_int)) a3_nil)))))) s3_nil))
      (s3_one (s3_nox (s3_ret (p3_tup (a3_cons (p3_var 1) (a3_cons (p3_ix ix3 (p3_var 2) p3_int) (a3_cons (p3_ix ix3 (p3_var 2) p3_int) a3_nil))))))))))))) rd_grid_of

theorem ok_l_grid_of (T : Tx K mg w) : Fn P w K mg base 2 "_law_grid_of" P_l_grid_of sp_l_grid_of := by
  obtain ⟨f, fd, F, hm, hb⟩ := T.f_l_grid_of
  exact fn3 F sc_l_grid_of hm hb len_l_grid_of fun cdv A outer s H E hr => ⟨t_l_grid_of, (s3_cons (s3_if (p3_tw (p3_wor (p3_tnot (p3_tval (p3_callB cb3_isi rfl T.m_isinstance (by rfl) (a3_cons (p3_var 0) (a3_cons (p3_ty rfl T.m_tuple (by rfl)) a3_nil))))) (p3_wor (p3_tcmp (op3_ne hr.units) (p3_callB cb3_len rfl T.m_len (by rfl) (a3_cons (p3_var 0) a3_nil)) p3_int) (p3_wor1 (p3_tnot (p3_tval (p3_callB (cb3_all rfl) rfl T.m_all (by rfl) (a3_cons (p3_comp (fv := []) (by show CompOk (defScope s_l_grid_of) N_l_grid_of _ _ _ _; exact ⟨rfl, by decide +kernel, by decide +kernel, by decide +kernel, rfl, by decide +kernel, by decide +kernel⟩) rfl (i3_tup (p3_var 0)) (fun pins cl s1 H1 fp => ifs3_nil) (fun pins cl s1 H1 fp => (p3_call (ok_l_whole T) (hr.mono (by decide)) (a3_cons (p3_var 0) a3_nil)))) a3_nil)))))))) (s3_one (s3_ret p3_bl)) s3_nil)
      (s3_cons (s3_asg (p3_var 0) (g3_three 3 4 5 rfl sc_l_grid_of.nd))
      (s3_cons (s3_if (p3_tw (p3_wor (p3_tcmp (op3_lt hr.units0) (p3_var 3) p3_int) (p3_wor (p3_tcmp (op3_lt hr.units0) (p3_var 5) p3_int) (p3_wor (p3_tcmp (op3_lt hr.units0) (p3_var 4) p3_int) (p3_wor (p3_tcmp op3_ge (p3_var 4) (p3_var 3)) (p3_wor1 (p3_tcmp (op3_ne hr.units) (p3_op op3_mulW (p3_var 3) (p3_var 5)) (p3_var 2)))))))) (s3_one (s3_ret p3_bl)) s3_nil)
      (s3_one (s3_ret (p3_callB (cb3_all rfl) rfl T.m_all (by rfl) (a3_cons (p3_comp (fv := [(0, "_law_found")]) (by show CompOk (defScope s_l_grid_of) N_l_grid_of _ _ _ _; exact ⟨rfl, by decide +kernel, by decide +kernel, by decide +kernel, rfl, by decide +kernel, by decide +kernel⟩) rfl (i3_list (p3_var 1)) (fun pins cl s1 H1 fp => ifs3_nil) (fun pins cl s1 H1 fp => (p3_cmp op3_notN (p3_call (ok_l_numbers_of T) (hr.mono (by decide)) (a3_cons (p3_var 1) (a3_cons (p3_var 0) a3_nil))) p3_non))) a3_nil))))))), rd_l_grid_of⟩

theorem ok_l_refused (T : Tx K mg w) : Fn P w K mg base 3 "_law_refused" P_l_refused sp_l_refused := by
  obtain ⟨f, fd, F, hm, hb⟩ := T.f_l_refused
  exact fn3 F sc_l_refused hm hb len_l_refused fun cdv A outer s H E hr => ⟨t_l_refused, (s3_cons (s3_set 1 sc_l_refused.nd p3_non)
      (s3_cons (s3_tryA 2 sc_l_refused.nd (sx_expr (p3_callE (okE_grid_of T) (hr.mono (by decide)) (a3_cons (p3_var 0) a3_nil))) (subs_cons T.s_NoGrid_FloorError subs_nil) (fun A2 => (s3_one (s3_set 1 sc_l_refused.nd (p3_var 2)))))
      (s3_one (s3_ret (p3_and (p3_cmp op3_notN (p3_var 1) p3_non) (p3_one (p3_cmp (op3_eq hr.units) (p3_call (ok_l_kinds T) (hr.mono (by decide)) (a3_cons (p3_var 1) a3_nil)) (p3_lst (a3_cons p3_str a3_nil))))))))), rd_l_refused⟩

theorem ok_l_right (T : Tx K mg w) : Fn P w K mg base 4 "_law_right" P_l_right sp_l_right := by
  obtain ⟨f, fd, F, hm, hb⟩ := T.f_l_right
  exact fn3 F sc_l_right hm hb len_l_right fun cdv A outer s H E hr => ⟨t_l_right, (s3_cons (s3_if (p3_tcmp (op3_eq hr.units) (p3_var 1) p3_int) (s3_one (s3_ret (p3_call (ok_l_refused T) (hr.mono (by decide)) (a3_cons (p3_var 0) a3_nil)))) s3_nil)
      (s3_one (s3_ret (p3_call (ok_l_grid_of T) (hr.mono (by decide)) (a3_cons (pe_of_x (p3_callE (okE_grid_of T) (hr.mono (by decide)) (a3_cons (p3_callTy cb3_list rfl T.m_list (by rfl) (a3_cons (p3_var 0) a3_nil)) a3_nil)) pass_no kx_no) (a3_cons (p3_var 0) (a3_cons (p3_var 1) a3_nil))))))), rd_l_right⟩

theorem law_ok (T : Tx K mg w) {f : Addr} {fd : FuncData} (F : Fun K "law" "law" s_law f fd) : FnOk P w K mg base CX0 5 f fd P_law (liftF K sp_law) :=
  fnok3 F sc_law len_law fun cdv A outer s H E hr => ⟨t_law, (s3_cons (s3_set 1 sc_law.nd (p3_call (ok_l_cell_at T) (hr.mono (by decide)) (a3_cons (p3_var 0) (a3_cons p3_int a3_nil))))
      (s3_cons (s3_set 2 sc_law.nd (p3_ix ix3 (p3_lst (a3_cons p3_int (a3_cons p3_int (a3_cons (p3_op op3_pow p3_int p3_int) a3_nil)))) (p3_op op3_mod (p3_var 1) p3_int)))
      (s3_cons (s3_set 3 sc_law.nd (p3_comp (fv := [(2, "_law_wide"), (0, "_law_script")]) (by show CompOk (defScope s_law) N_law _ _ _ _; exact ⟨rfl, by decide +kernel, by decide +kernel, by decide +kernel, rfl, by decide +kernel, by decide +kernel⟩) rfl (i3_list (p3_lst (a3_cons p3_int (a3_cons p3_int a3_nil)))) (fun pins cl s1 H1 fp => ifs3_nil) (fun pins cl s1 H1 fp => (p3_op op3_sub (p3_op op3_mod (p3_call (ok_l_cell_at T) (hr.mono (by decide)) (a3_cons (p3_var 2) (a3_cons (p3_var 0) a3_nil))) (p3_op op3_add (p3_op op3_mulW p3_int (p3_var 1)) p3_int)) (p3_var 1)))))
      (s3_cons (s3_setcomp (fv := [(0, "_law_script")]) 4 sc_law.nd (by show CompOk (defScope s_law) N_law _ _ _ _; exact ⟨rfl, by decide +kernel, by decide +kernel, by decide +kernel, rfl, by decide +kernel, by decide +kernel⟩) rfl (i3_rng1 T.m_range (p3_op op3_mod (p3_op op3_fdivW (p3_var 1) p3_int) p3_int)) (fun pins cl s1 H1 fp => ifs3_nil) (fun pins cl s1 H1 fp => (p3_op op3_sub (p3_op op3_mod (p3_call (ok_l_cell_at T) (hr.mono (by decide)) (a3_cons (p3_var 1) (a3_cons (p3_op op3_add p3_int (p3_var 0)) a3_nil))) p3_int) p3_int)))
      (s3_cons (s3_setcomp (fv := [(3, "_law_line")]) 5 sc_law.nd (by show CompOk (defScope s_law) N_law _ _ _ _; exact ⟨rfl, by decide +kernel, by decide +kernel, by decide +kernel, rfl, by decide +kernel, by decide +kernel⟩) rfl (i3_list (p3_var 4)) (fun pins cl s1 H1 fp => ifs3_nil) (fun pins cl s1 H1 fp => (p3_tup (a3_cons (p3_op op3_mulW (p3_var 0) (p3_ix ix3 (p3_var 1) p3_int)) (a3_cons (p3_op op3_mulW (p3_var 0) (p3_ix ix3 (p3_var 1) p3_int)) a3_nil)))))
      (s3_cons (s3_set 6 sc_law.nd (p3_tup (a3_cons (p3_op op3_sub (p3_op op3_mod (p3_call (ok_l_cell_at T) (hr.mono (by decide)) (a3_cons (p3_var 0) (a3_cons p3_int a3_nil))) p3_int) p3_int) (a3_cons (p3_op op3_sub (p3_op op3_mod (p3_call (ok_l_cell_at T) (hr.mono (by decide)) (a3_cons (p3_var 0) (a3_cons p3_int a3_nil))) p3_int) p3_int) a3_nil))))
      (s3_cons (s3_set 7 sc_law.nd p3_int)
      (s3_cons (s3_for PassesOwn.never rfl (i3_list (p3_var 4)) (g3_name 8 sc_law.nd) (s3_one (s3_set 7 sc_law.nd (p3_call (ok_l_divisor T) (hr.mono (by decide)) (a3_cons (p3_var 7) (a3_cons (p3_var 8) a3_nil))))))
      (s3_cons (s3_if (p3_tnot (p3_tval (p3_call (ok_l_right T) (hr.mono (by decide)) (a3_cons (p3_var 5) (a3_cons p3_int a3_nil))))) (s3_one (s3_ret p3_bl)) s3_nil)
      (s3_cons (s3_expr (p3_bm PySem.F.slot_list_insert PySem.F.type_list_insert mt3_ins (p3_var 5) (a3_cons (p3_op op3_mod (p3_call (ok_l_cell_at T) (hr.mono (by decide)) (a3_cons (p3_var 0) (a3_cons p3_int a3_nil))) (p3_op op3_add (p3_callB cb3_len rfl T.m_len (by rfl) (a3_cons (p3_var 5) a3_nil)) p3_int)) (a3_cons (p3_var 6) a3_nil))))
      (s3_one (s3_ret (p3_call (ok_l_right T) (hr.mono (by decide)) (a3_cons (p3_var 5) (a3_cons (p3_op op3_mulW (p3_var 7) (p3_callB cb3_abs rfl T.m_abs (by rfl) (a3_cons (p3_op op3_sub (p3_op op3_mulW (p3_ix ix3 (p3_var 3) p3_int) (p3_ix ix3 (p3_var 6) p3_int)) (p3_op op3_mulW (p3_ix ix3 (p3_var 3) p3_int) (p3_ix ix3 (p3_var 6) p3_int))) a3_nil))) a3_nil))))))))))))))), rd_law⟩

end
theorem all_mk {l : PySem.W.OpenLaw} {w : World} {K : PySem.W.Frag} {h : Heap} {mg : Str → Option Value} {fa f0 f1 f2 f3 f4 f5 f6 f7 f8 f9 f10 f11 : Addr} (X : K.In h) (G : h.Ns mainGlobals mg) (hfa : mg "law" = some (.ref fa))
    {od0 an0 od1 an1 od2 an2 od3 an3 od4 an4 od5 an5 od6 an6 od7 an7 od8 an8 od9 an9 od10 an10 od11 an11 : Option Addr} {sl0 sl1 sl2 sl3 sl4 sl5 sl6 sl7 sl8 sl9 sl10 sl11 : Array (Option Value)} {oc0 kV0 dc0 pm0 cd0 ct0 oc1 kV1 dc1 pm1 cd1 ct1 oc2 kV2 dc2 pm2 cd2 ct2 oc3 kV3 dc3 pm3 cd3 ct3 oc4 kV4 dc4 pm4 cd4 ct4 oc5 kV5 dc5 pm5 cd5 ct5 oc6 kV6 dc6 pm6 cd6 ct6 oc7 kV7 dc7 pm7 cd7 ct7 oc8 kV8 dc8 pm8 cd8 ct8 oc9 kV9 dc9 pm9 cd9 ct9 oc10 kV10 dc10 pm10 cd10 ct10 oc11 kV11 dc11 pm11 cd11 ct11 : Value}
    (a0 : PySem.W.nsIn K mainGlobals "common_measure" = some (some (.ref f0))) (l0 : K.lookup f0 = some ⟨oc0, od0, .func (PySem.W.fnOf "common_measure" "common_measure" (defArgs s_common_measure) (defBody s_common_measure) (defScope s_common_measure) .none kV0 dc0 pm0 an0 cd0 ct0), sl0⟩) (c0 : PySem.W.codeIn K cd0 "common_measure" = true) (k0 : PySem.W.keepIn K (.ref f0) = true)
    (a1 : PySem.W.nsIn K mainGlobals "levelled" = some (some (.ref f1))) (l1 : K.lookup f1 = some ⟨oc1, od1, .func (PySem.W.fnOf "levelled" "levelled" (defArgs s_levelled) (defBody s_levelled) (defScope s_levelled) .none kV1 dc1 pm1 an1 cd1 ct1), sl1⟩) (c1 : PySem.W.codeIn K cd1 "levelled" = true) (k1 : PySem.W.keepIn K (.ref f1) = true)
    (a2 : PySem.W.nsIn K mainGlobals "grid_of" = some (some (.ref f2))) (l2 : K.lookup f2 = some ⟨oc2, od2, .func (PySem.W.fnOf "grid_of" "grid_of" (defArgs s_grid_of) (defBody s_grid_of) (defScope s_grid_of) .none kV2 dc2 pm2 an2 cd2 ct2), sl2⟩) (c2 : PySem.W.codeIn K cd2 "grid_of" = true) (k2 : PySem.W.keepIn K (.ref f2) = true)
    (a3 : PySem.W.nsIn K mainGlobals "_law_cell_at" = some (some (.ref f3))) (l3 : K.lookup f3 = some ⟨oc3, od3, .func (PySem.W.fnOf "_law_cell_at" "_law_cell_at" (defArgs s_l_cell_at) (defBody s_l_cell_at) (defScope s_l_cell_at) .none kV3 dc3 pm3 an3 cd3 ct3), sl3⟩) (c3 : PySem.W.codeIn K cd3 "_law_cell_at" = true) (k3 : PySem.W.keepIn K (.ref f3) = true)
    (a4 : PySem.W.nsIn K mainGlobals "_law_whole" = some (some (.ref f4))) (l4 : K.lookup f4 = some ⟨oc4, od4, .func (PySem.W.fnOf "_law_whole" "_law_whole" (defArgs s_l_whole) (defBody s_l_whole) (defScope s_l_whole) .none kV4 dc4 pm4 an4 cd4 ct4), sl4⟩) (c4 : PySem.W.codeIn K cd4 "_law_whole" = true) (k4 : PySem.W.keepIn K (.ref f4) = true)
    (a5 : PySem.W.nsIn K mainGlobals "_law_numbers_of" = some (some (.ref f5))) (l5 : K.lookup f5 = some ⟨oc5, od5, .func (PySem.W.fnOf "_law_numbers_of" "_law_numbers_of" (defArgs s_l_numbers_of) (defBody s_l_numbers_of) (defScope s_l_numbers_of) .none kV5 dc5 pm5 an5 cd5 ct5), sl5⟩) (c5 : PySem.W.codeIn K cd5 "_law_numbers_of" = true) (k5 : PySem.W.keepIn K (.ref f5) = true)
    (a6 : PySem.W.nsIn K mainGlobals "_law_divisor" = some (some (.ref f6))) (l6 : K.lookup f6 = some ⟨oc6, od6, .func (PySem.W.fnOf "_law_divisor" "_law_divisor" (defArgs s_l_divisor) (defBody s_l_divisor) (defScope s_l_divisor) .none kV6 dc6 pm6 an6 cd6 ct6), sl6⟩) (c6 : PySem.W.codeIn K cd6 "_law_divisor" = true) (k6 : PySem.W.keepIn K (.ref f6) = true)
    (a7 : PySem.W.nsIn K mainGlobals "_law_grid_of" = some (some (.ref f7))) (l7 : K.lookup f7 = some ⟨oc7, od7, .func (PySem.W.fnOf "_law_grid_of" "_law_grid_of" (defArgs s_l_grid_of) (defBody s_l_grid_of) (defScope s_l_grid_of) .none kV7 dc7 pm7 an7 cd7 ct7), sl7⟩) (c7 : PySem.W.codeIn K cd7 "_law_grid_of" = true) (k7 : PySem.W.keepIn K (.ref f7) = true)
    (a8 : PySem.W.nsIn K mainGlobals "_law_kinds" = some (some (.ref f8))) (l8 : K.lookup f8 = some ⟨oc8, od8, .func (PySem.W.fnOf "_law_kinds" "_law_kinds" (defArgs s_l_kinds) (defBody s_l_kinds) (defScope s_l_kinds) .none kV8 dc8 pm8 an8 cd8 ct8), sl8⟩) (c8 : PySem.W.codeIn K cd8 "_law_kinds" = true) (k8 : PySem.W.keepIn K (.ref f8) = true)
    (a9 : PySem.W.nsIn K mainGlobals "_law_refused" = some (some (.ref f9))) (l9 : K.lookup f9 = some ⟨oc9, od9, .func (PySem.W.fnOf "_law_refused" "_law_refused" (defArgs s_l_refused) (defBody s_l_refused) (defScope s_l_refused) .none kV9 dc9 pm9 an9 cd9 ct9), sl9⟩) (c9 : PySem.W.codeIn K cd9 "_law_refused" = true) (k9 : PySem.W.keepIn K (.ref f9) = true)
    (a10 : PySem.W.nsIn K mainGlobals "_law_right" = some (some (.ref f10))) (l10 : K.lookup f10 = some ⟨oc10, od10, .func (PySem.W.fnOf "_law_right" "_law_right" (defArgs s_l_right) (defBody s_l_right) (defScope s_l_right) .none kV10 dc10 pm10 an10 cd10 ct10), sl10⟩) (c10 : PySem.W.codeIn K cd10 "_law_right" = true) (k10 : PySem.W.keepIn K (.ref f10) = true)
    (a11 : PySem.W.nsIn K mainGlobals "law" = some (some (.ref f11))) (l11 : K.lookup f11 = some ⟨oc11, od11, .func (PySem.W.fnOf "law" "law" (defArgs s_law) (defBody s_law) (defScope s_law) .none kV11 dc11 pm11 an11 cd11 ct11), sl11⟩) (c11 : PySem.W.codeIn K cd11 "law" = true) (k11 : PySem.W.keepIn K (.ref f11) = true)
    (z0 : PySem.W.nsIn K mainGlobals "ValueError" = some none)
    (z1 : PySem.W.nsIn K mainGlobals "abs" = some none)
    (z2 : PySem.W.nsIn K mainGlobals "all" = some none)
    (z3 : PySem.W.nsIn K mainGlobals "bool" = some none)
    (z4 : PySem.W.nsIn K mainGlobals "int" = some none)
    (z5 : PySem.W.nsIn K mainGlobals "isinstance" = some none)
    (z6 : PySem.W.nsIn K mainGlobals "len" = some none)
    (z7 : PySem.W.nsIn K mainGlobals "list" = some none)
    (z8 : PySem.W.nsIn K mainGlobals "range" = some none)
    (z9 : PySem.W.nsIn K mainGlobals "tuple" = some none)
    {XC_Apart XC_Backward XC_Crossed XC_FloorError XC_Hole XC_NoDrawing XC_NoFloor XC_NoGrid XC_NoLine XC_NoPiece XC_NoWord XC_NotAsMany XC_Nothing XC_Open XC_TooMany : Addr}
    (xa_Apart : PySem.W.nsIn K mainGlobals "Apart" = some (some (.ref XC_Apart)))
    (xa_Backward : PySem.W.nsIn K mainGlobals "Backward" = some (some (.ref XC_Backward)))
    (xa_Crossed : PySem.W.nsIn K mainGlobals "Crossed" = some (some (.ref XC_Crossed)))
    (xa_FloorError : PySem.W.nsIn K mainGlobals "FloorError" = some (some (.ref XC_FloorError)))
    (xa_Hole : PySem.W.nsIn K mainGlobals "Hole" = some (some (.ref XC_Hole)))
    (xa_NoDrawing : PySem.W.nsIn K mainGlobals "NoDrawing" = some (some (.ref XC_NoDrawing)))
    (xa_NoFloor : PySem.W.nsIn K mainGlobals "NoFloor" = some (some (.ref XC_NoFloor)))
    (xa_NoGrid : PySem.W.nsIn K mainGlobals "NoGrid" = some (some (.ref XC_NoGrid)))
    (xa_NoLine : PySem.W.nsIn K mainGlobals "NoLine" = some (some (.ref XC_NoLine)))
    (xa_NoPiece : PySem.W.nsIn K mainGlobals "NoPiece" = some (some (.ref XC_NoPiece)))
    (xa_NoWord : PySem.W.nsIn K mainGlobals "NoWord" = some (some (.ref XC_NoWord)))
    (xa_NotAsMany : PySem.W.nsIn K mainGlobals "NotAsMany" = some (some (.ref XC_NotAsMany)))
    (xa_Nothing : PySem.W.nsIn K mainGlobals "Nothing" = some (some (.ref XC_Nothing)))
    (xa_Open : PySem.W.nsIn K mainGlobals "Open" = some (some (.ref XC_Open)))
    (xa_TooMany : PySem.W.nsIn K mainGlobals "TooMany" = some (some (.ref XC_TooMany)))
    (xe_NoGrid : PySem.W.excIn K XC_NoGrid [.type "ValueError", .type "Exception", .type "BaseException", .type "object"] "ValueError.__new__" = true)
    (xs_NoGrid_FloorError : PySem.W.mroIn K XC_NoGrid (.ref XC_FloorError) = some true)
    (xb_FloorError : PySem.W.mroIn K XC_FloorError (.type "BaseException") = some true) (xt_FloorError : PySem.W.typeIn K (.ref XC_FloorError) = some (.type "type"))
    (x1_NoGrid : PySem.W.findIn K (.ref XC_NoGrid) "__getattribute__" = some (some (.builtin "BaseException.__getattribute__")))
    (x2_NoGrid : PySem.W.findIn K (.ref XC_NoGrid) "__getattr__" = some none)
    (x3_NoGrid : PySem.W.findIn K (.ref XC_NoGrid) "__class__" = some (some (.builtin "object.__class__")))
    (x4_NoGrid : PySem.W.specialIn K (.builtin "object.__class__") "__get__" = some (some (.builtin "getset_descriptor.__get__")))
    (x5_NoGrid : PySem.W.takesIn K (.builtin "object.__class__") = some true)
    (x6_NoGrid : PySem.W.mroIn K XC_NoGrid (.type "object") = some true)
    (x7_NoGrid : PySem.W.mroIn K XC_NoGrid (.type "BaseException") = some true)
    (xi_NoGrid_Apart : PySem.W.kitOne K (.ref XC_NoGrid) (.ref XC_Apart) = some false)
    (xi_NoGrid_Backward : PySem.W.kitOne K (.ref XC_NoGrid) (.ref XC_Backward) = some false)
    (xi_NoGrid_Crossed : PySem.W.kitOne K (.ref XC_NoGrid) (.ref XC_Crossed) = some false)
    (xi_NoGrid_Hole : PySem.W.kitOne K (.ref XC_NoGrid) (.ref XC_Hole) = some false)
    (xi_NoGrid_NoDrawing : PySem.W.kitOne K (.ref XC_NoGrid) (.ref XC_NoDrawing) = some false)
    (xi_NoGrid_NoFloor : PySem.W.kitOne K (.ref XC_NoGrid) (.ref XC_NoFloor) = some false)
    (xi_NoGrid_NoGrid : PySem.W.kitOne K (.ref XC_NoGrid) (.ref XC_NoGrid) = some true)
    (xi_NoGrid_NoLine : PySem.W.kitOne K (.ref XC_NoGrid) (.ref XC_NoLine) = some false)
    (xi_NoGrid_NoPiece : PySem.W.kitOne K (.ref XC_NoGrid) (.ref XC_NoPiece) = some false)
    (xi_NoGrid_NoWord : PySem.W.kitOne K (.ref XC_NoGrid) (.ref XC_NoWord) = some false)
    (xi_NoGrid_NotAsMany : PySem.W.kitOne K (.ref XC_NoGrid) (.ref XC_NotAsMany) = some false)
    (xi_NoGrid_Nothing : PySem.W.kitOne K (.ref XC_NoGrid) (.ref XC_Nothing) = some false)
    (xi_NoGrid_Open : PySem.W.kitOne K (.ref XC_NoGrid) (.ref XC_Open) = some false)
    (xi_NoGrid_TooMany : PySem.W.kitOne K (.ref XC_NoGrid) (.ref XC_TooMany) = some false)
    (xi_NoGrid_ValueError : PySem.W.kitOne K (.ref XC_NoGrid) (.type "ValueError") = some true)
    : ∃ fd : FuncData, (∀ (s : Shared) (v : Value), BindsTo s fd ⟨[v], []⟩ [("_law_script", v)]) ∧ ∀ base : Heap, K.In base → base.Ns mainGlobals mg → FnOk l.prog w K mg base CX0 5 fa fd ["_law_script"] (liftF K sp_law) := by
  have F0 := fun_mk (st := s_common_measure) l0 c0 k0
  have b0 := F0.binds (ps := P_common_measure) fun _ _ _ _ _ _ us hl => match us, hl with | [_, _], _ => rfl
  have F1 := fun_mk (st := s_levelled) l1 c1 k1
  have b1 := F1.binds (ps := P_levelled) fun _ _ _ _ _ _ us hl => match us, hl with | [_, _], _ => rfl
  have F2 := fun_mk (st := s_grid_of) l2 c2 k2
  have b2 := F2.binds (ps := P_grid_of) fun _ _ _ _ _ _ us hl => match us, hl with | [_], _ => rfl
  have F3 := fun_mk (st := s_l_cell_at) l3 c3 k3
  have b3 := F3.binds (ps := P_l_cell_at) fun _ _ _ _ _ _ us hl => match us, hl with | [_, _], _ => rfl
  have F4 := fun_mk (st := s_l_whole) l4 c4 k4
  have b4 := F4.binds (ps := P_l_whole) fun _ _ _ _ _ _ us hl => match us, hl with | [_], _ => rfl
  have F5 := fun_mk (st := s_l_numbers_of) l5 c5 k5
  have b5 := F5.binds (ps := P_l_numbers_of) fun _ _ _ _ _ _ us hl => match us, hl with | [_, _], _ => rfl
  have F6 := fun_mk (st := s_l_divisor) l6 c6 k6
  have b6 := F6.binds (ps := P_l_divisor) fun _ _ _ _ _ _ us hl => match us, hl with | [_, _], _ => rfl
  have F7 := fun_mk (st := s_l_grid_of) l7 c7 k7
  have b7 := F7.binds (ps := P_l_grid_of) fun _ _ _ _ _ _ us hl => match us, hl with | [_, _, _], _ => rfl
  have F8 := fun_mk (st := s_l_kinds) l8 c8 k8
  have b8 := F8.binds (ps := P_l_kinds) fun _ _ _ _ _ _ us hl => match us, hl with | [_], _ => rfl
  have F9 := fun_mk (st := s_l_refused) l9 c9 k9
  have b9 := F9.binds (ps := P_l_refused) fun _ _ _ _ _ _ us hl => match us, hl with | [_], _ => rfl
  have F10 := fun_mk (st := s_l_right) l10 c10 k10
  have b10 := F10.binds (ps := P_l_right) fun _ _ _ _ _ _ us hl => match us, hl with | [_, _], _ => rfl
  have F11 := fun_mk (st := s_law) l11 c11 k11
  have b11 := F11.binds (ps := P_law) fun _ _ _ _ _ _ us hl => match us, hl with | [_], _ => rfl
  have T : Tx K mg w := ⟨⟨_, _, F0, PySem.W.mg_of X G a0, b0⟩, ⟨_, _, F1, PySem.W.mg_of X G a1, b1⟩, ⟨_, _, F2, PySem.W.mg_of X G a2, b2⟩, ⟨_, _, F3, PySem.W.mg_of X G a3, b3⟩, ⟨_, _, F4, PySem.W.mg_of X G a4, b4⟩, ⟨_, _, F5, PySem.W.mg_of X G a5, b5⟩, ⟨_, _, F6, PySem.W.mg_of X G a6, b6⟩, ⟨_, _, F7, PySem.W.mg_of X G a7, b7⟩, ⟨_, _, F8, PySem.W.mg_of X G a8, b8⟩, ⟨_, _, F9, PySem.W.mg_of X G a9, b9⟩, ⟨_, _, F10, PySem.W.mg_of X G a10, b10⟩, PySem.W.mg_none_of X G z0, PySem.W.mg_none_of X G z1, PySem.W.mg_none_of X G z2, PySem.W.mg_none_of X G z3, PySem.W.mg_none_of X G z4, PySem.W.mg_none_of X G z5, PySem.W.mg_none_of X G z6, PySem.W.mg_none_of X G z7, PySem.W.mg_none_of X G z8, PySem.W.mg_none_of X G z9, ⟨_, xa_NoGrid, xe_NoGrid⟩, ⟨_, _, xa_NoGrid, xa_FloorError, xs_NoGrid_FloorError, xb_FloorError, xt_FloorError⟩, ⟨_, _, xa_NoGrid, xa_Apart, ⟨x1_NoGrid, x2_NoGrid, x3_NoGrid, x4_NoGrid, x5_NoGrid, x6_NoGrid, x7_NoGrid⟩, xi_NoGrid_Apart⟩, ⟨_, _, xa_NoGrid, xa_Backward, ⟨x1_NoGrid, x2_NoGrid, x3_NoGrid, x4_NoGrid, x5_NoGrid, x6_NoGrid, x7_NoGrid⟩, xi_NoGrid_Backward⟩, ⟨_, _, xa_NoGrid, xa_Crossed, ⟨x1_NoGrid, x2_NoGrid, x3_NoGrid, x4_NoGrid, x5_NoGrid, x6_NoGrid, x7_NoGrid⟩, xi_NoGrid_Crossed⟩, ⟨_, _, xa_NoGrid, xa_Hole, ⟨x1_NoGrid, x2_NoGrid, x3_NoGrid, x4_NoGrid, x5_NoGrid, x6_NoGrid, x7_NoGrid⟩, xi_NoGrid_Hole⟩, ⟨_, _, xa_NoGrid, xa_NoDrawing, ⟨x1_NoGrid, x2_NoGrid, x3_NoGrid, x4_NoGrid, x5_NoGrid, x6_NoGrid, x7_NoGrid⟩, xi_NoGrid_NoDrawing⟩, ⟨_, _, xa_NoGrid, xa_NoFloor, ⟨x1_NoGrid, x2_NoGrid, x3_NoGrid, x4_NoGrid, x5_NoGrid, x6_NoGrid, x7_NoGrid⟩, xi_NoGrid_NoFloor⟩, ⟨_, _, xa_NoGrid, xa_NoGrid, ⟨x1_NoGrid, x2_NoGrid, x3_NoGrid, x4_NoGrid, x5_NoGrid, x6_NoGrid, x7_NoGrid⟩, xi_NoGrid_NoGrid⟩, ⟨_, _, xa_NoGrid, xa_NoLine, ⟨x1_NoGrid, x2_NoGrid, x3_NoGrid, x4_NoGrid, x5_NoGrid, x6_NoGrid, x7_NoGrid⟩, xi_NoGrid_NoLine⟩, ⟨_, _, xa_NoGrid, xa_NoPiece, ⟨x1_NoGrid, x2_NoGrid, x3_NoGrid, x4_NoGrid, x5_NoGrid, x6_NoGrid, x7_NoGrid⟩, xi_NoGrid_NoPiece⟩, ⟨_, _, xa_NoGrid, xa_NoWord, ⟨x1_NoGrid, x2_NoGrid, x3_NoGrid, x4_NoGrid, x5_NoGrid, x6_NoGrid, x7_NoGrid⟩, xi_NoGrid_NoWord⟩, ⟨_, _, xa_NoGrid, xa_NotAsMany, ⟨x1_NoGrid, x2_NoGrid, x3_NoGrid, x4_NoGrid, x5_NoGrid, x6_NoGrid, x7_NoGrid⟩, xi_NoGrid_NotAsMany⟩, ⟨_, _, xa_NoGrid, xa_Nothing, ⟨x1_NoGrid, x2_NoGrid, x3_NoGrid, x4_NoGrid, x5_NoGrid, x6_NoGrid, x7_NoGrid⟩, xi_NoGrid_Nothing⟩, ⟨_, _, xa_NoGrid, xa_Open, ⟨x1_NoGrid, x2_NoGrid, x3_NoGrid, x4_NoGrid, x5_NoGrid, x6_NoGrid, x7_NoGrid⟩, xi_NoGrid_Open⟩, ⟨_, _, xa_NoGrid, xa_TooMany, ⟨x1_NoGrid, x2_NoGrid, x3_NoGrid, x4_NoGrid, x5_NoGrid, x6_NoGrid, x7_NoGrid⟩, xi_NoGrid_TooMany⟩, ⟨_, xa_NoGrid, ⟨x1_NoGrid, x2_NoGrid, x3_NoGrid, x4_NoGrid, x5_NoGrid, x6_NoGrid, x7_NoGrid⟩, xi_NoGrid_ValueError⟩⟩
  have e := hfa.symm.trans (PySem.W.mg_of X G a11)
  cases e
  refine ⟨PySem.W.fnOf "law" "law" (defArgs s_law) (defBody s_law) (defScope s_law) .none kV11 dc11 pm11 an11 cd11 ct11, fun s v => .of_eq rfl, fun base _ _ => ?_⟩
  exact law_ok T F11
end Law
open PySem PySem.W PyProof.Rows
set_option maxRecDepth 100000 in
set_option maxHeartbeats 0 in
theorem PySem.Challenge.cw_borderfloor_k24_no_grid_holds : PySem.Challenge.rw_borderfloor_k24_no_grid.Holds := by
  w_on; o_law; k_head; (case hw => w_witness2)
  k_fill
  refine L2.walk_ofK (l := PySem.Challenge.rw_borderfloor_k24_no_grid) (n := 63) (k := 5) (x := "_law_script") (CX := L2.CX0) (sp := fun K => L3.liftF K Law.sp_law) rfl (by decide) rfl ⟨rfl, by decide, by decide⟩ (fun w h Y => PySem.W.kIn_of Y) ?F ?S (fun _ _ _ _ z => z)
  case F =>
    intro w mg fa h KX G hmg
    refine' Law.all_mk KX G hmg ?a0 ?l0 ?c0 ?k0 ?a1 ?l1 ?c1 ?k1 ?a2 ?l2 ?c2 ?k2 ?a3 ?l3 ?c3 ?k3 ?a4 ?l4 ?c4 ?k4 ?a5 ?l5 ?c5 ?k5 ?a6 ?l6 ?c6 ?k6 ?a7 ?l7 ?c7 ?k7 ?a8 ?l8 ?c8 ?k8 ?a9 ?l9 ?c9 ?k9 ?a10 ?l10 ?c10 ?k10 ?a11 ?l11 ?c11 ?k11 ?z0 ?z1 ?z2 ?z3 ?z4 ?z5 ?z6 ?z7 ?z8 ?z9 ?xa_Apart ?xa_Backward ?xa_Crossed ?xa_FloorError ?xa_Hole ?xa_NoDrawing ?xa_NoFloor ?xa_NoGrid ?xa_NoLine ?xa_NoPiece ?xa_NoWord ?xa_NotAsMany ?xa_Nothing ?xa_Open ?xa_TooMany ?xe_NoGrid ?xs_NoGrid_FloorError ?xb_FloorError ?xt_FloorError ?x1_NoGrid ?x2_NoGrid ?x3_NoGrid ?x4_NoGrid ?x5_NoGrid ?x6_NoGrid ?x7_NoGrid ?xi_NoGrid_Apart ?xi_NoGrid_Backward ?xi_NoGrid_Crossed ?xi_NoGrid_Hole ?xi_NoGrid_NoDrawing ?xi_NoGrid_NoFloor ?xi_NoGrid_NoGrid ?xi_NoGrid_NoLine ?xi_NoGrid_NoPiece ?xi_NoGrid_NoWord ?xi_NoGrid_NotAsMany ?xi_NoGrid_Nothing ?xi_NoGrid_Open ?xi_NoGrid_TooMany ?xi_NoGrid_ValueError
    (case a0 => k_is)
    (case l0 => k_is)
    (case c0 => k_is)
    (case k0 => k_is)
    (case a1 => k_is)
    (case l1 => k_is)
    (case c1 => k_is)
    (case k1 => k_is)
    (case a2 => k_is)
    (case l2 => k_is)
    (case c2 => k_is)
    (case k2 => k_is)
    (case a3 => k_is)
    (case l3 => k_is)
    (case c3 => k_is)
    (case k3 => k_is)
    (case a4 => k_is)
    (case l4 => k_is)
    (case c4 => k_is)
    (case k4 => k_is)
    (case a5 => k_is)
    (case l5 => k_is)
    (case c5 => k_is)
    (case k5 => k_is)
    (case a6 => k_is)
    (case l6 => k_is)
    (case c6 => k_is)
    (case k6 => k_is)
    (case a7 => k_is)
    (case l7 => k_is)
    (case c7 => k_is)
    (case k7 => k_is)
    (case a8 => k_is)
    (case l8 => k_is)
    (case c8 => k_is)
    (case k8 => k_is)
    (case a9 => k_is)
    (case l9 => k_is)
    (case c9 => k_is)
    (case k9 => k_is)
    (case a10 => k_is)
    (case l10 => k_is)
    (case c10 => k_is)
    (case k10 => k_is)
    (case a11 => k_is)
    (case l11 => k_is)
    (case c11 => k_is)
    (case k11 => k_is)
    (case z0 => k_is)
    (case z1 => k_is)
    (case z2 => k_is)
    (case z3 => k_is)
    (case z4 => k_is)
    (case z5 => k_is)
    (case z6 => k_is)
    (case z7 => k_is)
    (case z8 => k_is)
    (case z9 => k_is)
    (case xa_Apart => k_is)
    (case xa_Backward => k_is)
    (case xa_Crossed => k_is)
    (case xa_FloorError => k_is)
    (case xa_Hole => k_is)
    (case xa_NoDrawing => k_is)
    (case xa_NoFloor => k_is)
    (case xa_NoGrid => k_is)
    (case xa_NoLine => k_is)
    (case xa_NoPiece => k_is)
    (case xa_NoWord => k_is)
    (case xa_NotAsMany => k_is)
    (case xa_Nothing => k_is)
    (case xa_Open => k_is)
    (case xa_TooMany => k_is)
    (case xe_NoGrid => k_exc)
    (case xs_NoGrid_FloorError => k_is)
    (case xb_FloorError => k_is)
    (case xt_FloorError => k_is)
    (case x1_NoGrid => k_is)
    (case x2_NoGrid => k_is)
    (case x3_NoGrid => k_is)
    (case x4_NoGrid => k_is)
    (case x5_NoGrid => k_is)
    (case x6_NoGrid => k_is)
    (case x7_NoGrid => k_is)
    (case xi_NoGrid_Apart => kit_is)
    (case xi_NoGrid_Backward => kit_is)
    (case xi_NoGrid_Crossed => kit_is)
    (case xi_NoGrid_Hole => kit_is)
    (case xi_NoGrid_NoDrawing => kit_is)
    (case xi_NoGrid_NoFloor => kit_is)
    (case xi_NoGrid_NoGrid => kit_is)
    (case xi_NoGrid_NoLine => kit_is)
    (case xi_NoGrid_NoPiece => kit_is)
    (case xi_NoGrid_NoWord => kit_is)
    (case xi_NoGrid_NotAsMany => kit_is)
    (case xi_NoGrid_Nothing => kit_is)
    (case xi_NoGrid_Open => kit_is)
    (case xi_NoGrid_TooMany => kit_is)
    (case xi_NoGrid_ValueError => kit_is)
  case S => exact fun K H a ns hl hO hS => L3.start_law hO hS (Law.begin_law hl)
