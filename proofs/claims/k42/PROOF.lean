import PyProof.Rows.All
import Wide.All
import OpenK.AllK
import Wide.FinOn
import Lean
import PyProof.EqAt
import PyProof.EqKinds
import PyProof.TupleCall
import PySem.Challenge.RW_borderfloor_k42_shifts_of_a_parting
set_option Elab.async false
set_option linter.all false
set_option maxRecDepth 100000
/-! THE HAND LAYER, for ints, bools, texts, own classes, LISTS and tuples (index, slices, in, append, pop ..), calls, loops. Paste it whole ahead of your own text; what your proof does not reach may be deleted. -/
namespace L2
open PySem PySem.Spec PyProof.Rows

/-- a key: an int or a str -/
abbrev Key := Sum Int Str
def keyIs : Key → Value → Bool
  | .inl k, v => Value.isInt k v
  | .inr x, v => Value.isStrOf x v
def keyH (w : World) : Key → Int
  | .inl k => hashInt k
  | .inr x => hashStr w x
theorem keyIs_shape : ∀ {k : Key} {v : Value}, keyIs k v = true → (∃ i t, k = Sum.inl i ∧ v = Value.int i t) ∨ (∃ x t, k = Sum.inr x ∧ v = Value.str x t)
  | .inl i, v, h => by
    obtain ⟨t, e⟩ := Value.isInt_shape (k := i) (v := v) h
    exact .inl ⟨i, t, rfl, e⟩
  | .inr x, v, h => by
    obtain ⟨t, e⟩ := Value.isStrOf_shape (x := x) (v := v) h
    exact .inr ⟨x, t, rfl, e⟩
theorem keyIs_int (i : Int) (t : Tok) : keyIs (.inl i) (.int i t) = true := by simp [keyIs, Value.isInt]
theorem keyIs_str (x : Str) (t : Tok) : keyIs (.inr x) (.str x t) = true := by simp [keyIs, Value.isStrOf]
theorem key_ll (a b : Int) : decide ((Sum.inl a : Key) = Sum.inl b) = (a == b) := by
  by_cases e : a = b
  · subst e; simp
  · have h : ¬ (Sum.inl a : Key) = Sum.inl b := fun q => e (Sum.inl.inj q)
    rw [decide_eq_false h]
    exact (beq_eq_false_iff_ne.mpr e).symm
theorem key_rr (a b : Str) : decide ((Sum.inr a : Key) = Sum.inr b) = decide (a = b) := by
  by_cases e : a = b
  · subst e; simp
  · have h : ¬ (Sum.inr a : Key) = Sum.inr b := fun q => e (Sum.inr.inj q)
    rw [decide_eq_false h, decide_eq_false e]
theorem key_lr (a : Int) (b : Str) : decide ((Sum.inl a : Key) = Sum.inr b) = false := decide_eq_false (fun q => nomatch q)
theorem key_rl (a : Str) (b : Int) : decide ((Sum.inr a : Key) = Sum.inl b) = false := decide_eq_false (fun q => nomatch q)

def mixKind (prog : Program) (w : World) : PySem.KeyKind prog w Key where
  is := keyIs
  hash := keyH w
  inj := fun v a b ha hb => by
    rcases keyIs_shape ha with ⟨i, t, rfl, rfl⟩ | ⟨x, t, rfl, rfl⟩
    · rcases keyIs_shape hb with ⟨j, u, rfl, e⟩ | ⟨y, u, rfl, e⟩
      · injection e with e1 _; rw [e1]
      · exact nomatch e
    · rcases keyIs_shape hb with ⟨j, u, rfl, e⟩ | ⟨y, u, rfl, e⟩
      · exact nomatch e
      · injection e with e1 _; rw [e1]
  byValue := fun k v h => by
    rcases keyIs_shape h with ⟨i, t, rfl, rfl⟩ | ⟨x, t, rfl, rfl⟩ <;> rfl
  pyHash := fun hv h => by
    rcases keyIs_shape hv with ⟨i, t, rfl, rfl⟩ | ⟨x, t, rfl, rfl⟩
    · exact wpAny_pyHash_int h
    · exact wpAny_pyHash_str h
  eqBool := fun hu hv h => by
    rcases keyIs_shape hu with ⟨i, t, rfl, rfl⟩ | ⟨x, t, rfl, rfl⟩
    · rcases keyIs_shape hv with ⟨j, u, rfl, rfl⟩ | ⟨y, u, rfl, rfl⟩
      · rw [key_ll] at h; exact wpAny_eqBool_int h
      · rw [key_lr] at h; exact SeqAt.EqAt.int_str i t y u _ _ _ _ h
    · rcases keyIs_shape hv with ⟨j, u, rfl, rfl⟩ | ⟨y, u, rfl, rfl⟩
      · rw [key_rl] at h; exact SeqAt.EqAt.str_int x t j u _ _ _ _ h
      · rw [key_rr] at h; exact wpAny_eqBool_str h
  «strs» := fun k x t v h => by
    rcases keyIs_shape h with ⟨i, u, rfl, e⟩ | ⟨y, u, rfl, e⟩
    · exact nomatch e
    · injection e with e1 _
      subst e1
      cases v <;> rfl

theorem mixKind_int (prog : Program) (w : World) (i : Int) (t : Tok) : (mixKind prog w).is (.inl i) (.int i t) = true := keyIs_int i t
theorem mixKind_str (prog : Program) (w : World) (x : Str) (t : Tok) : (mixKind prog w).is (.inr x) (.str x t) = true := keyIs_str x t
end L2

namespace L2
open PySem PySem.Spec PyProof.Rows

/-- a value, without the heap -/
inductive V where
  | non | bl (b : Bool) | int (i : Int) | str (x : Str) | byt (b : Array UInt8) | flt (b : UInt64) | ref (a : Addr) | ty (n : String)
  deriving DecidableEq

def RelV : V → Value → Prop
  | .non, u => u = Value.none
  | .bl b, u => u = Value.bool b
  | .int i, u => ∃ t, u = Value.int i t
  | .str x, u => ∃ t, u = Value.str x t
  | .byt b, u => ∃ t, u = Value.bytes b t
  | .flt b, u => ∃ t, u = Value.float b t
  | .ref a, u => u = Value.ref a
  | .ty n, u => u = Value.type n

abbrev Vals : List V → List Value → Prop := Paired RelV
theorem Vals.length {xs : List V} {us : List Value} (r : Vals xs us) : xs.length = us.length := Paired.length r
theorem Vals.get : ∀ {xs : List V} {us : List Value} {i : Nat} {x : V}, Vals xs us → xs[i]? = some x → ∃ u, us[i]? = some u ∧ RelV x u
  | _, _, _, _, .nil, e => by simp at e
  | _, _, 0, _, .cons r _, e => by simp at e; subst e; exact ⟨_, rfl, r⟩
  | _, _, i + 1, x, .cons _ t, e => by
    obtain ⟨u, h1, h2⟩ := Vals.get (i := i) (x := x) t (by simpa using e)
    exact ⟨u, by simpa using h1, h2⟩
theorem Vals.set {x : V} {u : Value} (r : RelV x u) : ∀ {xs : List V} {us : List Value} (i : Nat), Vals xs us → Vals (xs.set i x) (us.set i u)
  | _, _, _, .nil => .nil
  | _, _, 0, .cons _ t => .cons r t
  | _, _, i + 1, .cons q t => .cons q (Vals.set r i t)
theorem Vals.append : ∀ {xs ys : List V} {us ws : List Value}, Vals xs us → Vals ys ws → Vals (xs ++ ys) (us ++ ws)
  | _, _, _, _, .nil, s => s
  | _, _, _, _, .cons r t, s => .cons r (Vals.append t s)
theorem Vals.take : ∀ {xs : List V} {us : List Value} (n : Nat), Vals xs us → Vals (xs.take n) (us.take n)
  | _, _, 0, _ => .nil
  | _, _, _ + 1, .nil => .nil
  | _, _, n + 1, .cons r t => .cons r (Vals.take n t)
theorem Vals.drop : ∀ {xs : List V} {us : List Value} (n : Nat), Vals xs us → Vals (xs.drop n) (us.drop n)
  | _, _, 0, r => r
  | _, _, _ + 1, .nil => .nil
  | _, _, n + 1, .cons _ t => Vals.drop n t
theorem Vals.none_of : ∀ {xs : List V} {us : List Value} {i : Nat}, Vals xs us → xs[i]? = none → us[i]? = none := fun {xs us i} r e => by
  have h1 := r.length
  have h2 : xs.length ≤ i := List.getElem?_eq_none_iff.mp e
  exact List.getElem?_eq_none_iff.mpr (by omega)

def RelO : Option V → Option Value → Prop
  | some v, some u => RelV v u
  | none, none => True
  | _, _ => False
def KV {κ : Type} : List (κ × V) → List (κ × Value) → Prop := Paired fun (p : κ × V) (q : κ × Value) => p.1 = q.1 ∧ RelV p.2 q.2

/-- a key of a dict (00_mix): an int or a text -/
def kV : Key → V
  | .inl i => .int i
  | .inr x => .str x

/-- what stands at a tracked address -/
inductive HO where
  /-- a list -/
  | lst (xs : List V)
  /-- a tuple (never changes) -/
  | tup (xs : List V)
  /-- a dict whose keys are ints and texts; one whose keys are tuples of ints and texts (the empty one is both) -/
  | dK (kvs : List (Key × V)) | dT (kvs : List (List Key × V))
  /-- a set of ints: its members, its size -/
  | set (S : Int → Bool) (n : Nat)
  /-- an instance of the class at C, its dict at dx, its attributes -/
  | ins (C dx : Addr) (fs : List (Str × V))
  /-- the dict of the instance at x -/
  | own (x : Addr)
  /-- the dict of an exception -/
  | xd (fs : List (Str × V))
  /-- a bound method, f of x -/
  | met (f x : Addr)
  /-- a range object lo, lo + 1, .. below hi -/
  | rng (lo hi : Int)
  /-- a thing that is known to the object (the script; a dict while a loop walks it): read, never written while it is so -/
  | frz (o : Obj) (u : HO)
  /-- a code object's table -/
  | tbl (ps : Array Value)
  /-- any other thing, by what is true of its one object (a def of one's own: SetO a S n := HO.ext fun h => ..) -/
  | ext (φ : Heap → Prop)

abbrev Hp := Addr → Option HO
def upd (H : Hp) (a : Addr) (o : HO) : Hp := fun b => if b = a then some o else H b
theorem upd_same {H : Hp} {a : Addr} {o : HO} : upd H a o a = some o := by unfold upd; rw [if_pos rfl]
theorem upd_ne {H : Hp} {a b : Addr} {o : HO} (h : b ≠ a) : upd H a o b = H b := by unfold upd; rw [if_neg h]
/-- two objects of different content stand apart -/
theorem ne_of {H : Hp} {a b : Addr} {o u : HO} (h : H a = some o) (h' : H b = some u) (d : o ≠ u) : a ≠ b := by
  intro e; subst e; rw [h] at h'; exact d (Option.some.inj h')
theorem ne_of_none {H : Hp} {a b : Addr} {o : HO} (h : H a = some o) (h' : H b = none) : a ≠ b := by
  intro e; subst e; rw [h] at h'; cases h'

section
variable (P : Program) (w : World)
def ObjOk (H : Hp) (h : Heap) (a : Addr) : HO → Prop
  | .lst xs => xs.length ≤ sizeLine ∧ ∃ (its : List Value) (n : Nat), Vals xs its ∧ h.get? a = some { cls := .type "list", data := .seq its.toArray n }
  | .tup xs => xs.length ≤ sizeLine ∧ ∃ its : List Value, Vals xs its ∧ IsTup h a its.toArray
  | .dK kvs => kvs.length ≤ sizeLine ∧ (a == sysModules) = false ∧ ∃ vs, KV kvs vs ∧ h.DictOf (mixKind P w) a vs
  | .dT kvs => kvs.length ≤ sizeLine ∧ (a == sysModules) = false ∧ ∃ xs : List (List Key × Addr × Value),
      Paired (fun (p : List Key × V) (q : List Key × Addr × Value) => p.1 = q.1 ∧ H q.2.1 = some (.tup (p.1.map kV)) ∧ RelV p.2 q.2.2) kvs xs ∧
      ∃ o es ep, h.get? a = some o ∧ o.ExactDict ∧ o.data = .dict es ep ∧ es.toList = xs.map (entryOfKey (tupleKind (mixKind P w))) ∧ (xs.map (·.1)).Nodup
  | .set S n => h.SetOf (intKind P w) a S n
  | .ins C dx fs => H dx = some (.own a) ∧ fs.length ≤ 1000 ∧ dx ≠ a ∧ h.get? a = some (PySem.W.instObj C dx) ∧
      ∃ mA, h.Ns1 dx mA ∧ (∀ f, RelO (fs.lookup f) (mA f)) ∧ PySem.Within mA (fs.map (·.1))
  | .own _ => ∃ o, h.get? a = some o
  | .xd fs => ∃ mA, h.Ns1 a mA ∧ ∀ f, RelO (fs.lookup f) (mA f)
  | .rng lo hi => ∃ t u v, h.get? a = some { cls := .type "range", data := .fields #[.int lo t, .int hi u, .int 1 v] }
  | .frz o u => h.get? a = some o ∧ ObjOk H h a u
  | .tbl ps => h.get? a = some { cls := .none, data := .fields ps }
  | .met f x => h.get? a = some (PySem.W.methodObj (.ref f) (.ref x))
  | .ext φ => φ h ∧ (∃ o, h.get? a = some o) ∧ ∀ h1 h2 : Heap, φ h1 → (∀ o, h1.get? a = some o → h2.get? a = some o) → φ h2
/-- the abstract heap is held -/
def HOk (H : Hp) (h : Heap) : Prop := ∀ a o, H a = some o → ObjOk P w H h a o
end

section
variable {P : Program} {w : World} {H H' : Hp} {h h' : Heap} {a : Addr} {o : HO}
theorem ObjOk.lt (x : ObjOk P w H h a o) : a < h.objs.size := by
  cases o with
  | lst xs => obtain ⟨_, _, _, _, e⟩ := x; exact Heap.lt_size e
  | tup xs => obtain ⟨_, _, _, p⟩ := x; exact p.lt
  | dK kvs => obtain ⟨_, _, _, _, o, _, _, e, _⟩ := x; exact Heap.lt_size e
  | dT kvs => obtain ⟨_, _, _, _, o, _, _, e, _⟩ := x; exact Heap.lt_size e
  | set S n => obtain ⟨o, _, _, _, e, _⟩ := x; exact Heap.lt_size e
  | ins C dx fs => obtain ⟨_, _, _, e, _⟩ := x; exact Heap.lt_size e
  | own y => obtain ⟨_, e⟩ := x; exact Heap.lt_size e
  | xd fs => obtain ⟨_, ⟨_, _, _, e, _⟩, _⟩ := x; exact Heap.lt_size e
  | rng lo hi => obtain ⟨_, _, _, e⟩ := x; exact Heap.lt_size e
  | frz ob u => obtain ⟨e, _⟩ := x; exact Heap.lt_size e
  | tbl ps => exact Heap.lt_size (show h.get? a = some _ from x)
  | met f y => exact Heap.lt_size (show h.get? a = some _ from x)
  | ext φ => obtain ⟨_, ⟨_, e⟩, _⟩ := x; exact Heap.lt_size e
theorem Paired.mapP {α β : Type} {F G : α → β → Prop} : ∀ {l₁ : List α} {l₂ : List β}, Paired F l₁ l₂ → (∀ a b, F a b → G a b) → Paired G l₁ l₂
  | _, _, .nil, _ => .nil
  | _, _, .cons r t, f => .cons (f _ _ r) (Paired.mapP t f)
/-- what an object's description leans on: its own object, its own dict, the tuples -/
theorem ObjOk.stay (x : ObjOk P w H h a o) (k : ∀ b u, (b = a ∨ H b = some (.own a)) → h.get? b = some u → h'.get? b = some u)
    (ho : ∀ b, H b = some (.own a) → H' b = some (.own a)) (ht : ∀ b xs, H b = some (.tup xs) → H' b = some (.tup xs)) : ObjOk P w H' h' a o := by
  induction o with
  | lst xs => obtain ⟨z, its, n, r, e⟩ := x; exact ⟨z, its, n, r, k _ _ (.inl rfl) e⟩
  | tup xs => obtain ⟨z, its, r, ob, e, c⟩ := x; exact ⟨z, its, r, ob, k _ _ (.inl rfl) e, c⟩
  | dK kvs => obtain ⟨z, y, vs, r, ob, es, ep, e, c⟩ := x; exact ⟨z, y, vs, r, ob, es, ep, k _ _ (.inl rfl) e, c⟩
  | dT kvs =>
    obtain ⟨z, y, xs, r, ob, es, ep, e, c⟩ := x
    exact ⟨z, y, xs, Paired.mapP r fun p q z => ⟨z.1, ht _ _ z.2.1, z.2.2⟩, ob, es, ep, k _ _ (.inl rfl) e, c⟩
  | set S n => obtain ⟨ob, es, ep, t, e, c⟩ := x; exact ⟨ob, es, ep, t, k _ _ (.inl rfl) e, c⟩
  | ins C dx fs =>
    obtain ⟨d, z, ne, e, mA, ⟨od, es, ep, e2, c⟩, r⟩ := x
    exact ⟨ho _ d, z, ne, k _ _ (.inl rfl) e, mA, ⟨od, es, ep, k _ _ (.inr d) e2, c⟩, r⟩
  | own y => obtain ⟨ob, e⟩ := x; exact ⟨ob, k _ _ (.inl rfl) e⟩
  | xd fs => obtain ⟨mA, ⟨od, es, ep, e, c⟩, r⟩ := x; exact ⟨mA, ⟨od, es, ep, k _ _ (.inl rfl) e, c⟩, r⟩
  | rng lo hi => obtain ⟨t, u, v, e⟩ := x; exact ⟨t, u, v, k _ _ (.inl rfl) e⟩
  | frz ob u ih => obtain ⟨e, q⟩ := x; exact ⟨k _ _ (.inl rfl) e, ih q⟩
  | tbl ps =>
    have e : h.get? a = some { cls := .none, data := .fields ps } := x
    show h'.get? a = some { cls := .none, data := .fields ps }
    exact k a _ (.inl rfl) e
  | met f y =>
    have e : h.get? a = some (PySem.W.methodObj (.ref f) (.ref y)) := x
    show h'.get? a = some (PySem.W.methodObj (.ref f) (.ref y))
    exact k a _ (.inl rfl) e
  | ext φ => obtain ⟨p, ⟨o, e⟩, st⟩ := x; exact ⟨st _ _ p fun o q => k _ _ (.inl rfl) q, ⟨o, k _ _ (.inl rfl) e⟩, st⟩
theorem HOk.lt (x : HOk P w H h) (e : H a = some o) : a < h.objs.size := (x a o e).lt
theorem HOk.fresh (x : HOk P w H h) (e : h.objs.size ≤ a) : H a = none := by
  cases q : H a with
  | none => rfl
  | some u => exact absurd (Nat.lt_of_lt_of_le (x.lt q) e) (Nat.lt_irrefl _)
/-- every object of the heap is kept -/
theorem HOk.kept (x : HOk P w H h) (k : ∀ b u, h.get? b = some u → h'.get? b = some u) : HOk P w H h' := fun a o e =>
  (x a o e).stay (fun b u _ q => k b u q) (fun _ q => q) fun _ _ q => q
/-- a new object is laid and tracked -/
theorem HOk.laid (x : HOk P w H h) (k : ∀ b u, h.get? b = some u → h'.get? b = some u) (hp : h.objs.size ≤ a) (new : ObjOk P w (upd H a o) h' a o) : HOk P w (upd H a o) h' := fun b u e => by
  have hn := x.fresh hp
  by_cases hb : b = a
  · subst hb; rw [upd_same] at e; cases e; exact new
  · rw [upd_ne hb] at e
    exact (x b u e).stay (fun c v _ q => k c v q) (fun c q => by rw [upd_ne (ne_of_none q hn)]; exact q) fun c xs q => by rw [upd_ne (ne_of_none q hn)]; exact q
end

/-- what may be read as u: it is u, or a known u -/
def Rd (H : Hp) (a : Addr) (u : HO) : Prop := H a = some u ∨ ∃ o, H a = some (.frz o u)
theorem Rd.of {H : Hp} {a : Addr} {u : HO} (h : H a = some u) : Rd H a u := .inl h
theorem Rd.ok {P : Program} {w : World} {H : Hp} {h : Heap} {a : Addr} {u : HO} (r : Rd H a u) (x : HOk P w H h) : ObjOk P w H h a u := by
  rcases r with r | ⟨o, r⟩
  · exact x a u r
  · obtain ⟨_, q⟩ := x a _ r
    exact q
/-- what may be written -/
def Mut : Option HO → Prop
  | some (.lst _) => True
  | some (.dK _) => True
  | some (.dT _) => True
  | some (.set _ _) => True
  | some (.ins _ _ _) => True
  | some (.ext _) => True
  | _ => False
section
variable {P : Program} {w : World} {H : Hp} {h h' : Heap} {x e : Addr} {o' : HO}
/-- the object at e is changed: x itself, or the dict of the instance x -/
theorem HOk.write (ok : HOk P w H h) (mu : Mut (H x)) (he : e = x ∨ H e = some (.own x)) (k : ∀ b u, b ≠ e → h.get? b = some u → h'.get? b = some u) (heo : ∃ u, h'.get? e = some u)
    (new : ObjOk P w (upd H x o') h' x o') : HOk P w (upd H x o') h' := fun b u q => by
  have nown : ∀ c y, H c = some (.own y) → c ≠ x := fun c y r z => by subst z; rw [r] at mu; exact mu
  have ntup : ∀ c xs, H c = some (.tup xs) → c ≠ x := fun c xs r z => by subst z; rw [r] at mu; exact mu
  by_cases hb : b = x
  · subst hb; rw [upd_same] at q; cases q; exact new
  · rw [upd_ne hb] at q
    by_cases hbe : b = e
    · have q' : H b = some (.own x) := by
        rcases he with z | z
        · exact absurd (hbe.trans z) hb
        · rw [hbe]; exact z
      rw [q] at q'; cases q'
      obtain ⟨v, hv⟩ := heo
      exact ⟨v, by rw [hbe]; exact hv⟩
    · refine (ok b u q).stay (fun c v hc r => k c v ?_ r) (fun c r => by rw [upd_ne (nown c b r)]; exact r) fun c xs r => by rw [upd_ne (ntup c xs r)]; exact r
      rcases hc with rfl | hc
      · exact hbe
      · rintro rfl
        rcases he with z | z
        · exact nown c b hc z
        · rw [hc] at z; cases z; exact hb rfl
end

/-! ### kept unless tracked; of the frames at fs (the callers') the slots may change (an exception that passes writes there); of the records at ex (iterators) nothing is said -/
structure Un (fs ex : List Addr) (H H' : Hp) (h h' : Heap) : Prop where
  keep : ∀ b o, h.get? b = some o → H b = none → b ∉ fs → b ∉ ex → h'.get? b = some o
  slot : ∀ b o, h.get? b = some o → H b = none → b ∈ fs → b ∉ ex → ∃ sl, h'.get? b = some { o with slots := sl }
  free : ∀ b o, h.get? b = some o → H b = none → b ∉ ex → H' b = none
  there : ∀ b o, h.get? b = some o → b ∉ ex → ∃ o', h'.get? b = some o'
  tups : ∀ b xs, H b = some (.tup xs) → H' b = some (.tup xs)
  frzs : ∀ b o u, H b = some (.frz o u) → H' b = some (.frz o u)
  tbls : ∀ b ps, H b = some (.tbl ps) → ∃ more, H' b = some (.tbl (ps ++ more))
section
variable {fs fs' ex ex' : List Addr} {H H1 H2 : Hp} {h h1 h2 h' : Heap} {a x e : Addr} {o : HO}
theorem Un.any (u : Un fs ex H H1 h h1) {b : Addr} {ob : Obj} (q : h.get? b = some ob) (n : H b = none) (hx : b ∉ ex) : ∃ sl, h1.get? b = some { ob with slots := sl } := by
  by_cases hb : b ∈ fs
  · exact u.slot b ob q n hb hx
  · exact ⟨ob.slots, u.keep b ob q n hb hx⟩
theorem Un.trans (a : Un fs ex H H1 h h1) (b : Un fs ex H1 H2 h1 h2) : Un fs ex H H2 h h2 where
  keep := fun c ob q n hc hx => b.keep c ob (a.keep c ob q n hc hx) (a.free c ob q n hx) hc hx
  slot := fun c ob q n hc hx => by
    obtain ⟨sl, e1⟩ := a.slot c ob q n hc hx
    obtain ⟨sl', e2⟩ := b.slot c _ e1 (a.free c ob q n hx) hc hx
    exact ⟨sl', e2⟩
  free := fun c ob q n hx => by
    obtain ⟨o', e1⟩ := a.there c ob q hx
    exact b.free c o' e1 (a.free c ob q n hx) hx
  there := fun c ob q hx => by
    obtain ⟨o', e1⟩ := a.there c ob q hx
    exact b.there c o' e1 hx
  tups := fun c xs q => b.tups c xs (a.tups c xs q)
  frzs := fun c ob xs q => b.frzs c ob xs (a.frzs c ob xs q)
  tbls := fun c ps q => by
    obtain ⟨m1, e1⟩ := a.tbls c ps q
    obtain ⟨m2, e2⟩ := b.tbls c _ e1
    exact ⟨m1 ++ m2, by rw [e2, Array.append_assoc]⟩
theorem Un.kept (k : ∀ b u, h.get? b = some u → h'.get? b = some u) : Un fs ex H H h h' :=
  ⟨fun b ob q _ _ _ => k b ob q, fun b ob q _ _ _ => ⟨ob.slots, k b ob q⟩, fun _ _ _ n _ => n, fun b ob q _ => ⟨ob, k b ob q⟩, fun _ _ q => q, fun _ _ _ q => q, fun _ ps q => ⟨#[], by rw [q]; simp⟩⟩
theorem Un.refl : Un fs ex H H h h := Un.kept fun _ _ q => q
theorem Un.laid (k : ∀ b u, h.get? b = some u → h'.get? b = some u) (hp : h.objs.size ≤ a) (hn : H a = none) : Un fs ex H (upd H a o) h h' where
  keep := fun b u q _ _ _ => k b u q
  slot := fun b u q _ _ _ => ⟨u.slots, k b u q⟩
  free := fun b u q n _ => by rw [upd_ne (Nat.ne_of_lt (Nat.lt_of_lt_of_le (Heap.lt_size q) hp))]; exact n
  there := fun b u q _ => ⟨u, k b u q⟩
  tups := fun b xs q => by rw [upd_ne (ne_of_none q hn)]; exact q
  frzs := fun b u xs q => by rw [upd_ne (ne_of_none q hn)]; exact q
  tbls := fun b ps q => ⟨#[], by rw [upd_ne (ne_of_none q hn), q]; simp⟩
theorem Un.write (mu : Mut (H x)) (he : e = x ∨ H e = some (.own x)) (k : ∀ b u, b ≠ e → h.get? b = some u → h'.get? b = some u) (heo : ∃ u, h'.get? e = some u) : Un fs ex H (upd H x o) h h' := by
  have hx : ∀ b, H b = none → b ≠ x := fun b n z => by subst z; rw [n] at mu; exact mu
  have hb : ∀ b, H b = none → b ≠ e := fun b n z => by
    subst z
    rcases he with r | r
    · exact hx b n r
    · rw [n] at r; cases r
  have hm : ∀ b u, H b = some u → ¬ Mut (some u) → b ≠ x := fun b u q nm z => by subst z; rw [q] at mu; exact nm mu
  refine ⟨fun b u q n _ _ => k b u (hb b n) q, fun b u q n _ _ => ⟨u.slots, k b u (hb b n) q⟩, fun b u q n _ => by rw [upd_ne (hx b n)]; exact n, fun b u q _ => ?_,
    fun b xs q => by rw [upd_ne (hm b _ q fun z => z)]; exact q, fun b u xs q => by rw [upd_ne (hm b _ q fun z => z)]; exact q, fun b ps q => ⟨#[], by rw [upd_ne (hm b _ q fun z => z), q]; simp⟩⟩
  by_cases hbe : b = e
  · subst hbe; exact heo
  · exact ⟨u, k b u hbe q⟩
theorem Un.mono (u : Un fs ex H H1 h h1) (hs : ∀ b ∈ fs, b ∈ fs') (hx : ∀ b ∈ ex, b ∈ ex') : Un fs' ex' H H1 h h1 :=
  ⟨fun b ob q n hb he => u.keep b ob q n (fun z => hb (hs b z)) fun z => he (hx b z), fun _ _ q n _ he => u.any q n fun z => he (hx _ z), fun b ob q n he => u.free b ob q n fun z => he (hx b z), fun b ob q he => u.there b ob q fun z => he (hx b z), u.tups, u.frzs, u.tbls⟩
end

/-! ### the heap without what is tracked -/
def trk (h : Heap) (H : Hp) : List Addr := (List.range h.objs.size).filter fun a => (H a).isSome
def hidT (h : Heap) (H : Hp) : Heap := PySem.W.hideAll h (trk h H)
theorem hidT_size (h : Heap) (H : Hp) : (hidT h H).objs.size = h.objs.size := PySem.W.hideAll_size _ _
theorem hidT_get {h : Heap} {H : Hp} {b : Addr} {o : Obj} (e : h.get? b = some o) (n : H b = none) : (hidT h H).get? b = some o :=
  PySem.W.hideAll_get _ e fun hm => by
    have q : (H b).isSome = true := (List.mem_filter.mp hm).2
    rw [n] at q; simp at q
theorem of_hidT {h : Heap} {H : Hp} {b : Addr} {o : Obj} (e : (hidT h H).get? b = some o) : h.get? b = some o ∧ H b = none := by
  have e' : h.get? b = some o := PySem.W.of_hideAll (trk h H) e
  refine ⟨e', ?_⟩
  cases q : H b with
  | none => rfl
  | some x =>
    have hm : b ∈ trk h H := List.mem_filter.mpr ⟨List.mem_range.mpr (Heap.lt_size e'), by simp [q]⟩
    have z : (hidT h H).get? b = none := PySem.W.hideAll_none (trk h H) hm
    rw [z] at e; cases e

/-! ### OpenK's ledger, filled with every new object but one -/
def allNews (g h : Heap) (L : Addr) : List (Addr × Obj) := (List.range h.objs.size).filterMap fun a => if a = L ∨ (g.get? a).isSome = true then none else (h.get? a).map fun o => (a, o)
def rest (g h : Heap) (L d : Addr) : List (Addr × Obj) := (allNews g h L).filter fun p => decide (p.1 ≠ d)
end L2

namespace L2
open PySem PySem.Spec PyProof.Rows

/-- the module's facts, over the base: the heap at the law's entry without what is tracked there -/
structure Mod (K : PySem.W.Frag) (mg : Str → Option Value) (base : Heap) : Prop where
  kin : K.In base
  glob : base.Ns mainGlobals mg
  blt : ∃ mb, base.Ns builtinsNs mb ∧ ∀ x : Str, x ≠ "__name__" → mb x = bootBuiltins x
  nolimit : base.NoLimit

/-- the context: a def's body (or a comprehension's block) running. base: fixed through the whole law; s₀, H₀: the entry; outer: the frames whose slots others may change (a def's callers); stack: all frames that run;
   ex: iterators that were made ahead of the entry and are walked here (a comprehension's); fn: the names whose cells were made at the entry (a def: all; a comprehension's block: its own); calm: not within an except suite; pn: pins that every state bears; xe: what is wanted of an exception that leaves the code -/
structure Cx where
  prog : Program
  w : World
  K : PySem.W.Frag
  mg : Str → Option Value
  base : Heap
  A : Around
  N : List Str
  s₀ : Shared
  H₀ : Hp
  env : Env
  outer : List Env
  stack : List Env
  ex : List Addr
  fn : Str → Bool
  calm : Bool
  pn : List (Addr × Obj)
  xe : Value → Shared → Prop
/-- the callers' frames -/
def frs (l : List Env) : List Addr := l.filterMap (·.frame)
abbrev Cx.fs (X : Cx) : List Addr := frs X.outer

def Vis (sc : Scope) (x : Str) : Prop := sc.names.lookup x = some .local ∨ sc.names.lookup x = some .cell ∨ sc.names.lookup x = some .free
def Loc (sc : Scope) (x : Str) : Prop := sc.names.lookup x = some .local ∨ sc.names.lookup x = some .cell
def Look (env : Env) (h : Heap) (m : Str → Option Value) (x : Str) (u : Value) : Prop :=
  (env.kindOf x = some .local ∧ m x = some u) ∨ ((env.kindOf x = some .cell ∨ env.kindOf x = some .free) ∧ ∃ c, env.cells.lookup x = some c ∧ h.IsCell c (some u))

structure Cx.Ok (X : Cx) : Prop where
  mod : Mod X.K X.mg X.base
  kind : X.env.scope.kind = .function
  glob : X.env.globals = mainGlobals
  blt : X.env.builtins = builtinsNs
  above : X.s₀.heap.objs.size ≤ X.env.locals
  inj : ∀ x y c, X.env.cells.lookup x = some c → X.env.cells.lookup y = some c → x = y
  has : ∀ x, (X.env.kindOf x = some .cell ∨ X.env.kindOf x = some .free) → ∃ c, X.env.cells.lookup x = some c
  cab : ∀ x c, X.fn x = true → X.env.cells.lookup x = some c → X.s₀.heap.objs.size ≤ c
  hd : X.calm = true → X.A.handled = none
  frames : X.A.frames = some X.stack
  stk : X.stack = X.outer ∨ (X.stack = X.env :: X.outer ∧ X.env.frame = some X.env.locals)
  exf : ∀ b ∈ X.ex, b ≠ X.env.locals ∧ ∀ x c, X.env.cells.lookup x = some c → c ≠ b
  bs : ∀ b o, X.base.get? b = some o → X.s₀.heap.get? b = some o ∧ X.H₀ b = none
  bsz : X.base.objs.size ≤ X.s₀.heap.objs.size
  noex : ∀ b o, X.base.get? b = some o → b ∉ X.ex
  exfs : ∀ b ∈ X.ex, b ∉ X.fs
  funs : X.s₀.heap.FunFrames X.base X.outer
  frf : ∀ b ∈ X.fs, X.H₀ b = none

structure Inv (X : Cx) (pins : List (Addr × Obj)) (σ : List (Option V)) (H : Hp) (s : Shared) : Prop where
  ok : X.Ok
  os : s.os = X.s₀.os
  bare : AllBare s.gens
  base : Un X.fs X.ex X.H₀ H X.s₀.heap s.heap
  loc : ∃ m, s.heap.Ns X.env.locals m ∧ ∀ (i : Nat) (x : Str) (v : V), X.N[i]? = some x → σ[i]? = some (some v) → Vis X.env.scope x → ∃ u, RelV v u ∧ Look X.env s.heap m x u
  cell : ∀ x c, X.env.cells.lookup x = some c → ∃ v, s.heap.IsCell c v
  free : H X.env.locals = none
  freeC : ∀ x c, X.env.cells.lookup x = some c → H c = none
  pin : ∀ p ∈ X.pn ++ pins, s.heap.get? p.1 = some p.2 ∧ H p.1 = none ∧ p.1 ≠ X.env.locals ∧ p.1 ∉ X.fs ∧ ∀ v, p.2.data ≠ .cell v
  hok : HOk X.prog X.w H s.heap
  len : σ.length = X.N.length

section
variable {X : Cx} {pins : List (Addr × Obj)} {σ : List (Option V)} {H H' : Hp} {s : Shared} {h' : Heap}

theorem Cx.Ok.nofr (ok : X.Ok) {b : Addr} {o : Obj} (e : X.base.get? b = some o) : b ∉ X.fs := fun hb => by
  have := (ok.funs.mem hb).1
  rw [e] at this; cases this
theorem Inv.bs (I : Inv X pins σ H s) : ∀ b o, X.base.get? b = some o → s.heap.get? b = some o ∧ H b = none := fun b o e =>
  ⟨I.base.keep b o (I.ok.bs b o e).1 (I.ok.bs b o e).2 (I.ok.nofr e) (I.ok.noex b o e), I.base.free b o (I.ok.bs b o e).1 (I.ok.bs b o e).2 (I.ok.noex b o e)⟩
theorem Inv.bk (I : Inv X pins σ H s) : ∀ b o, X.base.get? b = some o → s.heap.get? b = some o := fun b o e => (I.bs b o e).1
theorem Inv.mod (I : Inv X pins σ H s) : Mod X.K X.mg X.base := I.ok.mod
theorem Inv.kIn (I : Inv X pins σ H s) : X.K.In s.heap := I.ok.mod.kin.keeps I.bk
theorem Inv.nolimit (I : Inv X pins σ H s) : s.heap.NoLimit := I.ok.mod.nolimit.keeps I.bk
/-- the frame over the base: for OpenK's rules (K.In X.base is I.mod.kin) -/
theorem Inv.fr (I : Inv X pins σ H s) : ∃ m, Fr X.base X.env.locals s.heap m :=
  let ⟨m, hn, _⟩ := I.loc
  ⟨m, hn, I.bk, Nat.le_trans I.ok.bsz I.ok.above⟩
theorem Inv.lt (I : Inv X pins σ H s) : X.env.locals < s.heap.objs.size := let ⟨_, hn, _⟩ := I.loc; hn.lt
theorem Inv.sz (I : Inv X pins σ H s) : X.s₀.heap.objs.size ≤ s.heap.objs.size := Nat.le_trans I.ok.above (Nat.le_of_lt I.lt)
theorem Inv.nofs (I : Inv X pins σ H s) {a : Addr} (h : s.heap.objs.size ≤ a) : a ∉ X.fs := fun hb => by
  obtain ⟨_, o, ho, _⟩ := I.ok.funs.mem hb
  exact absurd (Nat.lt_of_lt_of_le (Heap.lt_size ho) (Nat.le_trans I.sz h)) (Nat.lt_irrefl _)
theorem Inv.cne (I : Inv X pins σ H s) : ∀ x c, X.env.cells.lookup x = some c → c ≠ X.env.locals := fun x c e z => by
  obtain ⟨v, o, ho, hd⟩ := I.cell x c e
  obtain ⟨m, ⟨o', es, ep, ho', hd', _⟩, _⟩ := I.loc
  rw [z, ho'] at ho; cases ho; rw [hd'] at hd; cases hd
theorem Inv.funs (I : Inv X pins σ H s) : s.heap.FunFrames X.base X.outer := by
  have all : ∀ (l : List Env), (∀ b ∈ frs l, b ∈ X.fs) → X.s₀.heap.FunFrames X.base l → s.heap.FunFrames X.base l := by
    intro l
    induction l with
    | nil => intro _ _; trivial
    | cons env r ih =>
      intro hs hl
      obtain ⟨hk, ⟨L, o, hf, hn, ho, hd⟩, hr⟩ := hl
      have hL : L ∈ X.fs := hs L (by unfold frs; rw [List.filterMap_cons, hf]; exact List.mem_cons_self)
      obtain ⟨sl, e⟩ := I.base.slot L o ho (I.ok.frf L hL) hL fun z => I.ok.exfs L z hL
      exact ⟨hk, ⟨L, _, hf, hn, e, hd⟩, ih (fun b hb => hs b (by unfold frs; rw [List.filterMap_cons, hf]; exact List.mem_cons_of_mem _ hb)) hr⟩
  exact all X.outer (fun _ hb => hb) I.ok.funs

/-- the frames that run, for a call -/
theorem Inv.stack (I : Inv X pins σ H s) : s.heap.FunFrames X.base X.stack := by
  rcases I.ok.stk with e | ⟨e, hf⟩
  · rw [e]; exact I.funs
  · rw [e]
    obtain ⟨m, hn, _⟩ := I.loc
    refine .cons (by rw [I.ok.kind]; decide) hf hn ?_ I.funs
    exact Heap.get?_none_of_le (Nat.le_trans I.ok.bsz I.ok.above)
theorem Inv.stkSub (I : Inv X pins σ H s) : ∀ b ∈ frs X.stack, b ∈ X.env.locals :: X.fs := fun b hb => by
  rcases I.ok.stk with e | ⟨e, hf⟩
  · rw [e] at hb; exact List.mem_cons_of_mem _ hb
  · rw [e] at hb
    unfold frs at hb
    rw [List.filterMap_cons, hf] at hb
    exact hb
theorem Inv.stkFree (I : Inv X pins σ H s) : ∀ b ∈ frs X.stack, H b = none := fun b hb => by
  rcases List.mem_cons.mp (I.stkSub b hb) with e | hb
  · rw [e]; exact I.free
  · obtain ⟨_, o, ho, _⟩ := I.ok.funs.mem hb
    exact I.base.free b o ho (I.ok.frf b hb) fun z => I.ok.exfs b z hb

/-- THE STEP: the untracked objects but the frame and the records at ch are kept (the callers' frames up to slots), the frame's map is kept, the new abstract heap is held -/
theorem Inv.step {g' : Array GenState} {t' : Nat} {d' : Drawn} {ch : List Addr} (I : Inv X pins σ H s)
    (hch : ∀ b ∈ ch, (b ∈ X.ex ∨ X.s₀.heap.objs.size ≤ b) ∧ b ≠ X.env.locals ∧ (∀ x c, X.env.cells.lookup x = some c → c ≠ b) ∧ ∀ p ∈ X.pn ++ pins, p.1 ≠ b)
    (keep : ∀ b o, b ≠ X.env.locals → b ∉ X.fs → b ∉ ch → s.heap.get? b = some o → H b = none → h'.get? b = some o)
    (slot : ∀ b o, b ≠ X.env.locals → b ∈ X.fs → b ∉ ch → s.heap.get? b = some o → H b = none → ∃ sl, h'.get? b = some { o with slots := sl }) (free : ∀ b o, b ∉ ch → s.heap.get? b = some o → H b = none → H' b = none)
    (there : ∀ b o, b ∉ ch → s.heap.get? b = some o → ∃ o', h'.get? b = some o')
    (tups : ∀ b xs, H b = some (.tup xs) → H' b = some (.tup xs)) (frzs : ∀ b o u, H b = some (.frz o u) → H' b = some (.frz o u)) (tbls : ∀ b ps, H b = some (.tbl ps) → ∃ more, H' b = some (.tbl (ps ++ more)))
    (ns : ∀ m, s.heap.Ns X.env.locals m → h'.Ns X.env.locals m) (hok : HOk X.prog X.w H' h') (hg : AllBare g') :
    Inv X pins σ H' { s with heap := h', gens := g', drawn := d', toks := t' } := by
  have neL : ∀ b o, X.s₀.heap.get? b = some o → b ≠ X.env.locals := fun b o e => Nat.ne_of_lt (Nat.lt_of_lt_of_le (Heap.lt_size e) I.ok.above)
  have neC : ∀ b o, X.s₀.heap.get? b = some o → b ∉ X.ex → b ∉ ch := fun b o e hx hb => by
    rcases (hch b hb).1 with z | z
    · exact hx z
    · exact absurd (Nat.lt_of_lt_of_le (Heap.lt_size e) z) (Nat.lt_irrefl _)
  have cellK : ∀ x c, X.env.cells.lookup x = some c → ∀ v, s.heap.IsCell c v → h'.IsCell c v := fun x c e v ⟨o, ho, hd⟩ => by
    have nch : c ∉ ch := fun z => (hch c z).2.2.1 x c e rfl
    by_cases hc : c ∈ X.fs
    · obtain ⟨sl, q⟩ := slot c o (I.cne x c e) hc nch ho (I.freeC x c e)
      exact ⟨_, q, hd⟩
    · exact ⟨o, keep c o (I.cne x c e) hc nch ho (I.freeC x c e), hd⟩
  refine ⟨I.ok, I.os, hg, ⟨fun b o e n hb hx => ?_, fun b o e n hb hx => ?_, fun b o e n hx => ?_, fun b o e hx => ?_, fun b xs e => tups b xs (I.base.tups b xs e), fun b o xs e => frzs b o xs (I.base.frzs b o xs e), fun b ps e => ?_⟩, ?_, fun x c e => ?_, ?_, fun x c e => ?_, fun p hp => ?_, hok, I.len⟩
  · exact keep b o (neL b o e) hb (neC b o e hx) (I.base.keep b o e n hb hx) (I.base.free b o e n hx)
  · obtain ⟨sl, e1⟩ := I.base.slot b o e n hb hx
    obtain ⟨sl', e2⟩ := slot b _ (neL b o e) hb (neC b o e hx) e1 (I.base.free b o e n hx)
    exact ⟨sl', e2⟩
  · obtain ⟨o', e1⟩ := I.base.there b o e hx
    exact free b o' (neC b o e hx) e1 (I.base.free b o e n hx)
  · obtain ⟨o', e1⟩ := I.base.there b o e hx
    exact there b o' (neC b o e hx) e1
  · obtain ⟨m1, e1⟩ := I.base.tbls b ps e
    obtain ⟨m2, e2⟩ := tbls b _ e1
    exact ⟨m1 ++ m2, by rw [e2, Array.append_assoc]⟩
  · obtain ⟨m, hn, hl⟩ := I.loc
    refine ⟨m, ns m hn, fun i x v e1 e2 e3 => ?_⟩
    obtain ⟨u, r, l⟩ := hl i x v e1 e2 e3
    refine ⟨u, r, ?_⟩
    rcases l with l | ⟨k, c, e, z⟩
    · exact .inl l
    · exact .inr ⟨k, c, e, cellK x c e _ z⟩
  · obtain ⟨v, z⟩ := I.cell x c e
    exact ⟨v, cellK x c e v z⟩
  · obtain ⟨m, ⟨o, _, _, ho, _⟩, _⟩ := I.loc
    exact free _ o (fun z => (hch _ z).2.1 rfl) ho I.free
  · obtain ⟨v, o, ho, hd⟩ := I.cell x c e
    exact free c o (fun z => (hch c z).2.2.1 x c e rfl) ho (I.freeC x c e)
  · obtain ⟨e, n, ne, nf, d⟩ := I.pin p hp
    have nch : p.1 ∉ ch := fun z => (hch p.1 z).2.2.2 p hp rfl
    exact ⟨keep p.1 p.2 ne nf nch e n, free p.1 p.2 nch e n, ne, nf, d⟩
/-- .. where the frame's own object is kept too -/
theorem Inv.un {t' : Nat} (I : Inv X pins σ H s) (u : Un X.fs [] H H' s.heap h') (hok : HOk X.prog X.w H' h') : Inv X pins σ H' { s with heap := h', toks := t' } := by
  obtain ⟨m, ⟨o, es, ep, ho, r⟩, _⟩ := id I.loc
  obtain ⟨sl, hL⟩ := u.any ho I.free (by simp)
  exact I.step (g' := s.gens) (d' := s.drawn) (ch := []) (fun _ z => nomatch z) (fun b o _ hb _ e n => u.keep b o e n hb (by simp)) (fun b o _ hb _ e n => u.slot b o e n hb (by simp)) (fun b o _ e n => u.free b o e n (by simp)) (fun b o _ e => u.there b o e (by simp)) u.tups u.frzs u.tbls (fun m' hm => by
    obtain ⟨o', es', ep', ho', r'⟩ := hm
    rw [ho] at ho'; cases ho'
    exact ⟨_, es', ep', hL, r'⟩) hok I.bare
/-- behind a call (or a comprehension's block): the slots of this frame may have changed too, the records at ch may have turned -/
theorem Inv.call {g' : Array GenState} {t' : Nat} {d' : Drawn} {ch : List Addr} (I : Inv X pins σ H s) (u : Un (frs X.stack) ch H H' s.heap h') (hok : HOk X.prog X.w H' h') (hg : AllBare g')
    (hch : ∀ b ∈ ch, (b ∈ X.ex ∨ X.s₀.heap.objs.size ≤ b) ∧ b ≠ X.env.locals ∧ (∀ x c, X.env.cells.lookup x = some c → c ≠ b) ∧ ∀ p ∈ X.pn ++ pins, p.1 ≠ b) :
    Inv X pins σ H' { s with heap := h', gens := g', drawn := d', toks := t' } := by
  obtain ⟨m, ⟨o, es, ep, ho, r⟩, _⟩ := id I.loc
  obtain ⟨sl, hL⟩ := u.any ho I.free fun z => (hch _ z).2.1 rfl
  exact I.step (ch := ch) hch (fun b o hL hb hc e n => u.keep b o e n (fun z => (List.mem_cons.mp (I.stkSub b z)).elim hL hb) hc) (fun b o _ _ hc e n => u.any e n hc) (fun b o hc e n => u.free b o e n hc) (fun b o hc e => u.there b o e hc) u.tups u.frzs u.tbls (fun m' hm => by
    obtain ⟨o', es', ep', ho', r'⟩ := hm
    rw [ho] at ho'; cases ho'
    exact ⟨_, es', ep', hL, r'⟩) hok hg
/-- an untracked record of ours (an iterator) has turned -/
theorem Inv.turned {t' : Nat} {it : Addr} (I : Inv X pins σ H s) (k : ∀ b o, b ≠ it → s.heap.get? b = some o → h'.get? b = some o) (hn : H it = none) (hL : it ≠ X.env.locals)
    (h1 : it ∈ X.ex ∨ X.s₀.heap.objs.size ≤ it) (h2 : ∀ x c, X.env.cells.lookup x = some c → c ≠ it) (h3 : ∀ p ∈ X.pn ++ pins, p.1 ≠ it) : Inv X pins σ H { s with heap := h', toks := t' } := by
  have nit : ∀ b u, H b = some u → b ≠ it := fun b u e z => by rw [z, hn] at e; cases e
  refine I.step (g' := s.gens) (d' := s.drawn) (ch := [it]) (fun b hb => ?_) (fun b o _ _ hc e _ => k b o (fun z => hc (by simp [z])) e) (fun b o _ _ hc e _ => ⟨o.slots, k b o (fun z => hc (by simp [z])) e⟩) (fun _ _ _ _ n => n)
    (fun b o hc e => ⟨o, k b o (fun z => hc (by simp [z])) e⟩) (fun _ _ e => e) (fun _ _ _ e => e) (fun b ps e => ⟨#[], by rw [e]; simp⟩) (fun m hm => ?_) (fun b u e => ?_) I.bare
  · have e : b = it := by simpa using hb
    subst e
    exact ⟨h1, hL, h2, h3⟩
  · obtain ⟨o, es, ep, ho, r⟩ := hm
    exact ⟨o, es, ep, k _ o (Ne.symm hL) ho, r⟩
  · refine (I.hok b u e).stay (fun c v hc q => k c v ?_ q) (fun _ q => q) fun _ _ q => q
    rcases hc with z | z
    · rw [z]; exact nit b u e
    · exact nit c _ z
theorem Inv.tok (I : Inv X pins σ H s) (t : Nat) : Inv X pins σ H { s with toks := t } := I.un (h' := s.heap) (t' := t) Un.refl I.hok
/-- all objects kept -/
theorem Inv.kept {t' : Nat} (I : Inv X pins σ H s) (k : ∀ b u, s.heap.get? b = some u → h'.get? b = some u) : Inv X pins σ H { s with heap := h', toks := t' } := I.un (Un.kept k) (I.hok.kept k)
/-- a new object laid and tracked -/
theorem Inv.laid {a : Addr} {o : HO} {t' : Nat} (I : Inv X pins σ H s) (k : ∀ b u, s.heap.get? b = some u → h'.get? b = some u) (hp : s.heap.objs.size ≤ a) (new : ObjOk X.prog X.w (upd H a o) h' a o) :
    Inv X pins σ (upd H a o) { s with heap := h', toks := t' } := I.un (Un.laid k hp (I.hok.fresh hp)) (I.hok.laid k hp new)
/-- an object written -/
theorem Inv.write {x e : Addr} {o : HO} {t' : Nat} (I : Inv X pins σ H s) (mu : Mut (H x)) (he : e = x ∨ H e = some (.own x)) (k : ∀ b u, b ≠ e → s.heap.get? b = some u → h'.get? b = some u) (heo : ∃ u, h'.get? e = some u)
    (new : ObjOk X.prog X.w (upd H x o) h' x o) : Inv X pins σ (upd H x o) { s with heap := h', toks := t' } := I.un (Un.write mu he k heo) (I.hok.write mu he k heo new)
/-- forgetting slots, pins -/
theorem Inv.weak {σ' : List (Option V)} (I : Inv X pins σ H s) (hl : σ'.length = σ.length) (w : ∀ (i : Nat) v, σ'[i]? = some (some v) → σ[i]? = some (some v)) : Inv X pins σ' H s :=
  ⟨I.ok, I.os, I.bare, I.base, let ⟨m, hn, hl'⟩ := I.loc; ⟨m, hn, fun i x v e1 e2 e3 => hl' i x v e1 (w i v e2) e3⟩, I.cell, I.free, I.freeC, I.pin, I.hok, hl.trans I.len⟩
theorem Inv.pins_of {pins' : List (Addr × Obj)} (I : Inv X pins σ H s) (h : ∀ p ∈ pins', s.heap.get? p.1 = some p.2 ∧ H p.1 = none ∧ p.1 ≠ X.env.locals ∧ p.1 ∉ X.fs ∧ ∀ v, p.2.data ≠ .cell v) : Inv X pins' σ H s :=
  ⟨I.ok, I.os, I.bare, I.base, I.loc, I.cell, I.free, I.freeC, fun p hp => (List.mem_append.mp hp).elim (fun z => I.pin p (List.mem_append_left _ z)) (h p), I.hok, I.len⟩

theorem nodup_ix {N : List Str} (hN : N.Nodup) {i j : Nat} {x : Str} (a : N[i]? = some x) (b : N[j]? = some x) : i = j := by
  obtain ⟨h1, e1⟩ := List.getElem?_eq_some_iff.mp a
  obtain ⟨h2, e2⟩ := List.getElem?_eq_some_iff.mp b
  exact (List.getElem_inj hN).mp (e1.trans e2.symm)

/-- a name is stored; what changed -/
theorem store_ok2 {M : Model} {A : Around} {E : Value → Shared → Prop} {i : Nat} {x : Str} {v : V} {u : Value} {Q : Unit → Shared → Prop} (I : Inv X pins σ H s) (hN : X.N.Nodup) (hi : X.N[i]? = some x) (hx : Loc X.env.scope x) (r : RelV v u)
    (h : ∀ s', Inv X pins (σ.set i (some v)) H s' → (∃ a, Heap.SameBut a s.heap s'.heap ∧ (a = X.env.locals ∨ X.env.cells.lookup x = some a)) → Q () s') (hf : X.fn x = true ∨ X.env.scope.names.lookup x = some .local := by first | exact .inl rfl | exact .inr rfl | assumption) : wpAny M A (storeName X.env x u) Q E s := by
  obtain ⟨m, hn, hl⟩ := id I.loc
  have hcls : (X.env.scope.kind == .class || (X.env.scope.kind == .module && X.env.locals != X.env.globals)) = false := by rw [I.ok.kind]; rfl
  have hiσ : i < σ.length := by rw [I.len]; exact (List.getElem?_eq_some_iff.mp hi).1
  have cne := I.cne
  have tracked : ∀ {a : Addr} {h' : Heap}, (∃ o, s.heap.get? a = some o ∧ H a = none) → Heap.SameBut a s.heap h' → HOk X.prog X.w H h' := fun {a h'} ha hs b ob e => by
    obtain ⟨_, _, hfree⟩ := ha
    refine (I.hok b ob e).stay (fun c w' hc q => (hs.2 c ?_).trans q) (fun _ q => q) fun _ _ q => q
    rintro rfl
    rcases hc with rfl | hc
    · rw [hfree] at e; cases e
    · rw [hfree] at hc; cases hc
  rcases hx with hk | hk
  · refine wpAny_storeName_local hk hn (fun h' hn' hs => ?_) hcls
    obtain ⟨oL, _, _, hoL, _⟩ := id hn
    refine h _ ⟨I.ok, I.os, I.bare, ⟨fun b o e n hb hx => ?_, fun b o e n hb hx => ?_, I.base.free, fun b o e hx => ?_, I.base.tups, I.base.frzs, I.base.tbls⟩, ⟨_, hn', fun j y v' e1 e2 e3 => ?_⟩, fun y c e => ?_, I.free, I.freeC, fun p hp => ?_, tracked ⟨oL, hoL, I.free⟩ hs, by simpa using I.len⟩ ⟨_, hs, .inl rfl⟩
    · exact (hs.2 b (Nat.ne_of_lt (Nat.lt_of_lt_of_le (Heap.lt_size e) I.ok.above))).trans (I.base.keep b o e n hb hx)
    · obtain ⟨sl, e1⟩ := I.base.slot b o e n hb hx
      exact ⟨sl, (hs.2 b (Nat.ne_of_lt (Nat.lt_of_lt_of_le (Heap.lt_size e) I.ok.above))).trans e1⟩
    · obtain ⟨o', e1⟩ := I.base.there b o e hx
      exact ⟨o', (hs.2 b (Nat.ne_of_lt (Nat.lt_of_lt_of_le (Heap.lt_size e) I.ok.above))).trans e1⟩
    · by_cases hj : j = i
      · subst hj
        rw [hi] at e1; cases e1
        rw [List.getElem?_set_self hiσ] at e2
        cases e2
        exact ⟨u, r, .inl ⟨hk, by simp⟩⟩
      · rw [List.getElem?_set_ne (Ne.symm hj)] at e2
        obtain ⟨u', r', q⟩ := hl j y v' e1 e2 e3
        refine ⟨u', r', ?_⟩
        rcases q with ⟨k, e⟩ | ⟨k, c, e, z⟩
        · refine .inl ⟨k, ?_⟩
          have : y ≠ x := fun e => hj (nodup_ix hN e1 (e ▸ hi))
          simp [this, e]
        · exact .inr ⟨k, c, e, z.sameBut hs (cne y c e)⟩
    · obtain ⟨w', z⟩ := I.cell y c e
      exact ⟨w', z.sameBut hs (cne y c e)⟩
    · obtain ⟨e, n, ne, nf, d⟩ := I.pin p hp
      exact ⟨(hs.2 p.1 ne).trans e, n, ne, nf, d⟩
  · have hfn : X.fn x = true := by
      rcases hf with z | z
      · exact z
      · rw [z] at hk; cases hk
    obtain ⟨c, hc⟩ := I.ok.has x (.inl hk)
    obtain ⟨w', z⟩ := I.cell x c hc
    refine wpAny_storeName_cell I.ok.kind hk hc z (fun h' hc' hs => ?_)
    obtain ⟨oc, hoc, hocd⟩ := id z
    refine h { s with heap := h' } ⟨I.ok, I.os, I.bare, ⟨fun b o e n hb hx => ?_, fun b o e n hb hx => ?_, I.base.free, fun b o e hx => ?_, I.base.tups, I.base.frzs, I.base.tbls⟩, ⟨m, hn.sameBut hs (Ne.symm (cne x c hc)), fun j y v' e1 e2 e3 => ?_⟩, fun y c' e => ?_, I.free, I.freeC, fun p hp => ?_, tracked ⟨oc, hoc, I.freeC x c hc⟩ hs, by simpa using I.len⟩ ⟨c, hs, .inr hc⟩
    · exact (hs.2 b (Nat.ne_of_lt (Nat.lt_of_lt_of_le (Heap.lt_size e) (I.ok.cab x c hfn hc)))).trans (I.base.keep b o e n hb hx)
    · obtain ⟨sl, e1⟩ := I.base.slot b o e n hb hx
      exact ⟨sl, (hs.2 b (Nat.ne_of_lt (Nat.lt_of_lt_of_le (Heap.lt_size e) (I.ok.cab x c hfn hc)))).trans e1⟩
    · obtain ⟨o', e1⟩ := I.base.there b o e hx
      exact ⟨o', (hs.2 b (Nat.ne_of_lt (Nat.lt_of_lt_of_le (Heap.lt_size e) (I.ok.cab x c hfn hc)))).trans e1⟩
    · by_cases hj : j = i
      · subst hj
        rw [hi] at e1; cases e1
        rw [List.getElem?_set_self hiσ] at e2
        cases e2
        exact ⟨u, r, .inr ⟨.inl hk, c, hc, hc'⟩⟩
      · rw [List.getElem?_set_ne (Ne.symm hj)] at e2
        obtain ⟨u', r', q⟩ := hl j y v' e1 e2 e3
        refine ⟨u', r', ?_⟩
        rcases q with q | ⟨k, c', e, z'⟩
        · exact .inl q
        · refine .inr ⟨k, c', e, z'.sameBut hs ?_⟩
          rintro rfl
          exact hj (nodup_ix hN e1 (I.ok.inj _ _ _ e hc ▸ hi))
    · by_cases hcc : c' = c
      · subst hcc; exact ⟨_, hc'⟩
      · obtain ⟨w2, z2⟩ := I.cell y c' e
        exact ⟨w2, z2.sameBut hs hcc⟩
    · obtain ⟨e, n, ne, nf, d⟩ := I.pin p hp
      refine ⟨(hs.2 p.1 ?_).trans e, n, ne, nf, d⟩
      intro q
      rw [q, hoc] at e
      have q' : oc = p.2 := Option.some.inj e
      exact d w' (by rw [← q']; exact hocd)
theorem store_ok {M : Model} {A : Around} {E : Value → Shared → Prop} {i : Nat} {x : Str} {v : V} {u : Value} {Q : Unit → Shared → Prop} (I : Inv X pins σ H s) (hN : X.N.Nodup) (hi : X.N[i]? = some x) (hx : Loc X.env.scope x) (r : RelV v u)
    (h : ∀ s', Inv X pins (σ.set i (some v)) H s' → Q () s') (hf : X.fn x = true ∨ X.env.scope.names.lookup x = some .local := by first | exact .inl rfl | exact .inr rfl | assumption) : wpAny M A (storeName X.env x u) Q E s :=
  store_ok2 I hN hi hx r (fun s' I' _ => h s' I') hf
/-- behind a call or a block, the state as it is -/
theorem Inv.call' {s' : Shared} {ch : List Addr} (I : Inv X pins σ H s) (ho : s'.os = s.os) (u : Un (frs X.stack) ch H H' s.heap s'.heap) (hok : HOk X.prog X.w H' s'.heap) (hg : AllBare s'.gens)
    (hch : ∀ b ∈ ch, (b ∈ X.ex ∨ X.s₀.heap.objs.size ≤ b) ∧ b ≠ X.env.locals ∧ (∀ x c, X.env.cells.lookup x = some c → c ≠ b) ∧ ∀ p ∈ X.pn ++ pins, p.1 ≠ b) : Inv X pins σ H' s' := by
  obtain ⟨h', g', d', t', o'⟩ := s'
  have e : o' = s.os := ho
  subst e
  exact I.call (g' := g') (t' := t') (d' := d') u hok hg hch
end

/-! ### the judgements -/
/-- an exception: its class, its own dict's address (where it has one), the abstract heap behind it -/
abbrev XK := Value → Option Addr → Hp → Prop
abbrev St := List (Option V)
abbrev VK := V → Hp → Prop
/-- an expression's reading; a test's; an argument list's -/
abbrev TE := St → Hp → VK → Prop
abbrev TT := St → Hp → (Bool → Hp → Prop) → Prop
abbrev TA := St → Hp → (List V → Hp → Prop) → Prop
/-- what is wanted behind a statement -/
structure Ends where
  nx : St → Hp → Prop
  rt : VK
  bk : St → Hp → Prop := fun _ _ => False
  ct : St → Hp → Prop := fun _ _ => False
abbrev TS := Ends → St → Hp → Prop

def EP (X : Cx) (pins : List (Addr × Obj)) (σ : St) (Q : VK) (u : Value) (s' : Shared) : Prop := ∃ v H', Inv X pins σ H' s' ∧ RelV v u ∧ Q v H'
def TP (X : Cx) (pins : List (Addr × Obj)) (σ : St) (Q : Bool → Hp → Prop) (b : Bool) (s' : Shared) : Prop := ∃ H', Inv X pins σ H' s' ∧ Q b H'
def AP (X : Cx) (pins : List (Addr × Obj)) (σ : St) (Q : List V → Hp → Prop) (us : List Value) (s' : Shared) : Prop := ∃ vs H', Inv X pins σ H' s' ∧ Vals vs us ∧ Q vs H'
def SP (X : Cx) (pins : List (Addr × Obj)) (D : Ends) (f : Flow) (s' : Shared) : Prop :=
  match f with
  | .next => ∃ σ' H', Inv X pins σ' H' s' ∧ D.nx σ' H'
  | .brk => ∃ σ' H', Inv X pins σ' H' s' ∧ D.bk σ' H'
  | .cont => ∃ σ' H', Inv X pins σ' H' s' ∧ D.ct σ' H'
  | .ret u => ∃ v σ' H', Inv X pins σ' H' s' ∧ RelV v u ∧ D.rt v H'

def PE (X : Cx) (e : Expr) (t : TE) : Prop :=
  ∀ (pins : List (Addr × Obj)) (s : Shared) (σ : St) (H : Hp) (Q : VK), Inv X pins σ H s → t σ H Q → wpAny (model X.prog X.w) X.A (eval e X.env) (EP X pins σ Q) X.xe s
def PT (X : Cx) (e : Expr) (t : TT) : Prop :=
  ∀ (pins : List (Addr × Obj)) (s : Shared) (σ : St) (H : Hp) (Q : Bool → Hp → Prop), Inv X pins σ H s → t σ H Q → wpAny (model X.prog X.w) X.A (isTrue e X.env (eval e X.env)) (TP X pins σ Q) X.xe s
/-- a test whatever its 'whole' is (and, or) -/
def PW (X : Cx) (e : Expr) (t : TT) : Prop :=
  ∀ (whole : Sem Value) (pins : List (Addr × Obj)) (s : Shared) (σ : St) (H : Hp) (Q : Bool → Hp → Prop), Inv X pins σ H s → t σ H Q → wpAny (model X.prog X.w) X.A (isTrue e X.env whole) (TP X pins σ Q) X.xe s
theorem PW.pt {X : Cx} {e : Expr} {t : TT} (h : PW X e t) : PT X e t := h _
/-- an argument list (no star), from the left -/
def PA (X : Cx) (es : List Expr) (t : TA) : Prop :=
  ∀ (pos : Pos) (pins : List (Addr × Obj)) (s : Shared) (σ : St) (H : Hp) (Q : List V → Hp → Prop), Inv X pins σ H s → t σ H Q → wpAny (model X.prog X.w) X.A (spliced (backTo pos (starEach es X.env))) (AP X pins σ Q) X.xe s
def PS (X : Cx) (st : Stmt) (t : TS) : Prop :=
  ∀ (pins : List (Addr × Obj)) (s : Shared) (σ : St) (H : Hp) (D : Ends), Inv X pins σ H s → t D σ H → wpAny (model X.prog X.w) X.A (exec st X.env) (SP X pins D) X.xe s
def PSs (X : Cx) (st : List Stmt) (t : TS) : Prop :=
  ∀ (pins : List (Addr × Obj)) (s : Shared) (σ : St) (H : Hp) (D : Ends), Inv X pins σ H s → t D σ H → wpAny (model X.prog X.w) X.A (execs st X.env) (SP X pins D) X.xe s
/-- weaken the end -/
theorem thn {α : Type} {t : Sem α} {Q Q' : α → Shared → Prop} {M : Model} {A : Around} {E : Value → Shared → Prop} {s : Shared} (h : wpAny M A t Q E s) (hQ : ∀ a s, Q a s → Q' a s) : wpAny M A t Q' E s := wpAny_mono h hQ fun _ _ x => x
end L2

namespace L2
open PySem PySem.Spec PyProof.Rows
section
variable {X : Cx}

/-! ### names and constants -/
def tVar (i : Nat) : TE := fun σ H Q => ∃ v, σ[i]? = some (some v) ∧ Q v H
def tC (v : V) : TE := fun _ H Q => Q v H
theorem pe_var {i : Nat} {x : Str} {pos : Pos} (hN : X.N[i]? = some x) (hv : Vis X.env.scope x) (hd : (x == ("__debug__" : Str)) = false := by decide) (hcd : (x == ("__classdict__" : Str)) = false := by decide) : PE X (.Name x pos) (tVar i) := by
  intro pins s σ H Q I h
  obtain ⟨v, e, h⟩ := h
  obtain ⟨m, hn, hl⟩ := I.loc
  obtain ⟨u, r, l⟩ := hl i x v hN e hv
  have fin : EP X pins σ Q u s := ⟨v, H, I, r, h⟩
  rcases l with ⟨hk, hm⟩ | ⟨hk, c, hc, hcell⟩
  · exact wpAny_Name (wpAny_loadName_local I.ok.kind hk hn hm fin) hd
  · rcases hk with hk | hk
    · exact wpAny_Name (wpAny_loadName_cell I.ok.kind hk hc hcell fin) hd
    · exact wpAny_Name (wpAny_loadName_free I.ok.kind hk hc hcell fin hcd) hd
theorem pe_int {i j pos} : PE X (.Constant (.int i) j pos) (tC (.int i)) := fun _ _ _ H _ I h => wpAny_Constant_int ⟨.int i, H, I.tok _, ⟨_, rfl⟩, h⟩
theorem pe_bl {b j pos} : PE X (.Constant (.bool b) j pos) (tC (.bl b)) := fun _ _ _ H _ I h => Constant_bool ⟨.bl b, H, I, rfl, h⟩
theorem pe_str {x j pos} : PE X (.Constant (.str x) j pos) (tC (.str x)) := fun _ _ _ H _ I h => Calls.Constant_str ⟨.str x, H, I.tok _, ⟨_, rfl⟩, h⟩

/-- a global name of the def -/
def Gl (X : Cx) (x : Str) : Prop := X.env.kindOf x = some .globalImplicit
theorem ld_glob {E : Value → Shared → Prop} {pins : List (Addr × Obj)} {s : Shared} {σ : St} {H : Hp} {x : Str} {u : Value} {pos : Pos} {Q : Value → Shared → Prop} (I : Inv X pins σ H s) (hg : Gl X x) (hm : X.mg x = some u) (h : Q u s)
    (hd : (x == ("__debug__" : Str)) = false := by decide) : wpAny (model X.prog X.w) X.A (eval (.Name x pos) X.env) Q E s :=
  Calls.Name_function_global I.ok.kind hg (Calls.loadGlobal_global (by rw [I.ok.glob]; exact I.mod.glob.keeps I.bk) hm h) hd
theorem ld_blt {E : Value → Shared → Prop} {pins : List (Addr × Obj)} {s : Shared} {σ : St} {H : Hp} {x : Str} {u : Value} {pos : Pos} {Q : Value → Shared → Prop} (I : Inv X pins σ H s) (hg : Gl X x) (hm : X.mg x = none) (hv : bootBuiltins x = some u) (h : Q u s)
    (hn : x ≠ "__name__" := by decide) (hd : (x == ("__debug__" : Str)) = false := by decide) : wpAny (model X.prog X.w) X.A (eval (.Name x pos) X.env) Q E s := by
  obtain ⟨mb, h1, h2⟩ := I.mod.blt
  exact Calls.Name_function_global I.ok.kind hg (Calls.loadGlobal_builtin (by rw [I.ok.glob]; exact I.mod.glob.keeps I.bk) hm (by rw [I.ok.blt]; exact h1.keeps I.bk) ((h2 x hn).trans hv) h) hd
theorem pe_bltn {x : Str} {v : V} {u : Value} {pos : Pos} (hg : Gl X x) (hm : X.mg x = none) (hv : bootBuiltins x = some u) (r : RelV v u) (hn : x ≠ "__name__" := by decide) (hd : (x == ("__debug__" : Str)) = false := by decide) : PE X (.Name x pos) (tC v) :=
  fun _ _ _ H _ I h => ld_blt I hg hm hv ⟨v, H, I, r, h⟩ hn hd

/-! ### arithmetic -/
variable {a b : Expr} {ta tb : TE} {pos : Pos}
/-! ### comparisons -/
/-- a comparison as a value, as a test -/
def tB (t : TE) : TT := fun σ H Q => t σ H fun x H1 => ∃ c, x = .bl c ∧ Q c H1
/-- an expression whose value is a bool, as a test -/
theorem pt_val {e : Expr} {t : TE} (h : PE X e t) (he : ∀ whole, isTrue e X.env whole = (do let v ← whole; standAt e.pos; holding [v] (truthy v)) := by intro _; rfl) : PT X e (tB t) := by
  intro pins s σ H Q I hw
  refine isTrue_plain (thn (h pins s σ H _ I hw) fun v s1 ⟨x, H1, I1, r1, q1⟩ => ?_) (he _)
  obtain ⟨d, rfl, q⟩ := q1
  cases r1
  exact wpAny_truthy_bool ⟨H1, I1, q⟩

/-! ### and, or, not -/
variable {tA tB' : TT} {rest : List Expr}
def tAnd (t u : TT) : TT := fun σ H Q => t σ H fun c H1 => if c = true then u σ H1 Q else Q false H1
def tOr (t u : TT) : TT := fun σ H Q => t σ H fun c H1 => if c = true then Q true H1 else u σ H1 Q
def tNot (t : TT) : TT := fun σ H Q => t σ H fun c H1 => Q (!c) H1
theorem pw_and1 (ha : PT X a tA) : PW X (.BoolOp .And [a] pos) tA := by
  intro wh pins s σ H Q I h
  refine isTrue_and (thn (ha pins s σ H Q I h) fun c s1 e => ?_)
  cases c with
  | true => exact isTrue_and_nil e
  | false => exact e
theorem pw_or1 (ha : PT X a tA) : PW X (.BoolOp .Or [a] pos) tA := by
  intro wh pins s σ H Q I h
  refine isTrue_or (thn (ha pins s σ H Q I h) fun c s1 e => ?_)
  cases c with
  | false => exact isTrue_or_nil e
  | true => exact e
theorem pw_and (ha : PT X a tA) (hb : PW X (.BoolOp .And (b :: rest) pos) tB') : PW X (.BoolOp .And (a :: b :: rest) pos) (tAnd tA tB') := by
  intro wh pins s σ H Q I h
  refine isTrue_and (thn (ha pins s σ H _ I h) fun c s1 ⟨H1, I1, q1⟩ => ?_)
  cases c with
  | true => exact hb wh pins s1 σ H1 Q I1 q1
  | false => exact ⟨H1, I1, q1⟩
theorem pw_or (ha : PT X a tA) (hb : PW X (.BoolOp .Or (b :: rest) pos) tB') : PW X (.BoolOp .Or (a :: b :: rest) pos) (tOr tA tB') := by
  intro wh pins s σ H Q I h
  refine isTrue_or (thn (ha pins s σ H _ I h) fun c s1 ⟨H1, I1, q1⟩ => ?_)
  cases c with
  | true => exact ⟨H1, I1, q1⟩
  | false => exact hb wh pins s1 σ H1 Q I1 q1
theorem pt_not (ha : PT X a tA) : PT X (.UnaryOp .Not a pos) (tNot tA) := by
  intro pins s σ H Q I h
  exact isTrue_not (ha pins s σ H (fun c H1 => Q (!c) H1) I h)
/-- .. as values (bools) -/
def tAndV (ta tb : TE) : TE := fun σ H Q => ta σ H fun x H1 => ∃ c, x = .bl c ∧ if c = true then tb σ H1 Q else Q (.bl false) H1
def tNotV (ta : TE) : TE := fun σ H Q => ta σ H fun x H1 => ∃ c, x = .bl c ∧ Q (.bl (!c)) H1
theorem pe_one {op} {t : TE} (h : PE X a t) : PE X (.BoolOp op [a] pos) t := fun pins s σ H Q I hw => BoolOp_one (h pins s σ H Q I hw)
theorem pe_and (ha : PE X a ta) (hb : PE X (.BoolOp .And (b :: rest) pos) tb) : PE X (.BoolOp .And (a :: b :: rest) pos) (tAndV ta tb) := by
  intro pins s σ H Q I h
  refine BoolOp_and (thn (ha pins s σ H _ I h) fun v s1 ⟨x, H1, I1, r1, q1⟩ => ?_)
  obtain ⟨c, rfl, q1⟩ := q1
  cases r1
  refine wpAny_truthy_bool ?_
  cases c with
  | true => exact hb pins s1 σ H1 Q I1 q1
  | false => exact ⟨.bl false, H1, I1, rfl, q1⟩
theorem pe_not (ha : PE X a ta) : PE X (.UnaryOp .Not a pos) (tNotV ta) := by
  intro pins s σ H Q I h
  refine UnaryOp_ (thn (ha pins s σ H _ I h) fun v s1 ⟨x, H1, I1, r1, q1⟩ => ?_)
  obtain ⟨c, rfl, q1⟩ := q1
  cases r1
  exact not_of (wpAny_truthy_bool ⟨.bl (!c), H1, I1, rfl, q1⟩)
end
end L2

namespace L2
open PySem PySem.Spec PyProof.Rows

/-! ### a list, a tuple that is read: tracked, frozen, or an object of the module -/
def SqL (K : PySem.W.Frag) (H : Hp) (a : Addr) (xs : List V) : Prop :=
  Rd H a (.lst xs) ∨
    ∃ (o : Obj) (its : Array Value) (n : Nat), K.lookup a = some o ∧ o.cls = .type "list" ∧ o.dict = none ∧ o.data = .seq its n ∧ its.size ≤ sizeLine ∧ Vals xs its.toList
def SqT (K : PySem.W.Frag) (H : Hp) (a : Addr) (xs : List V) : Prop :=
  Rd H a (.tup xs) ∨
    ∃ (o : Obj) (its : Array Value) (n : Nat), K.lookup a = some o ∧ o.cls = .type "tuple" ∧ o.data = .seq its n ∧ its.size ≤ sizeLine ∧ Vals xs its.toList
def absV : Value → Option V
  | .none => some .non
  | .bool b => some (.bl b)
  | .int i _ => some (.int i)
  | .str x _ => some (.str x)
  | .bytes b _ => some (.byt b)
  | .float b _ => some (.flt b)
  | .ref a => some (.ref a)
  | .type n => some (.ty n)
  | _ => none
theorem RelV.abs {x : V} {u : Value} (r : RelV x u) : absV u = some x := by
  cases x with
  | non => cases r; rfl
  | bl _ => cases r; rfl
  | int _ => obtain ⟨t, rfl⟩ := r; rfl
  | str _ => obtain ⟨t, rfl⟩ := r; rfl
  | byt _ => obtain ⟨t, rfl⟩ := r; rfl
  | flt _ => obtain ⟨t, rfl⟩ := r; rfl
  | ref _ => cases r; rfl
  | ty _ => cases r; rfl
theorem RelV.inj {x y : V} {u : Value} (r : RelV x u) (q : RelV y u) : x = y := Option.some.inj (r.abs.symm.trans q.abs)
theorem Vals.inj : ∀ {xs ys : List V} {us : List Value}, Vals xs us → Vals ys us → xs = ys
  | _, _, _, .nil, .nil => rfl
  | _, _, _, .cons r t, .cons r' t' => by rw [r.inj r', Vals.inj t t']
section
variable {X : Cx} {pins : List (Addr × Obj)} {σ : St} {H : Hp} {s : Shared} {a : Addr} {xs ys : List V}
theorem SqL.of {K : PySem.W.Frag} (h : H a = some (.lst xs)) : SqL K H a xs := .inl (.inl h)
theorem SqT.of {K : PySem.W.Frag} (h : H a = some (.tup xs)) : SqT K H a xs := .inl (.inl h)
theorem Inv.list (I : Inv X pins σ H s) (h : SqL X.K H a xs) : ∃ its : List Value, Vals xs its ∧ PlainL s.heap a its.toArray ∧ xs.length ≤ sizeLine := by
  rcases h with h | ⟨o, its, n, hk, hc, hd, hs, hz, r⟩
  · obtain ⟨z, its, n, r, e⟩ := h.ok I.hok
    exact ⟨its, r, ⟨_, n, e, rfl, rfl, rfl⟩, z⟩
  · refine ⟨its.toList, r, ⟨o, n, I.kIn a o hk, hc, hd, by simpa using hs⟩, ?_⟩
    have e := r.length
    simp only [Array.length_toList] at e
    omega
theorem Inv.tuple (I : Inv X pins σ H s) (h : SqT X.K H a xs) : ∃ its : List Value, Vals xs its ∧ IsTup s.heap a its.toArray ∧ xs.length ≤ sizeLine := by
  rcases h with h | ⟨o, its, n, hk, hc, hs, hz, r⟩
  · obtain ⟨z, its, r, p⟩ := h.ok I.hok
    exact ⟨its, r, p, z⟩
  · refine ⟨its.toList, r, ⟨o, I.kIn a o hk, hc, n, by simpa using hs⟩, ?_⟩
    have e := r.length
    simp only [Array.length_toList] at e
    omega
theorem Inv.list_inj (I : Inv X pins σ H s) (h : SqL X.K H a xs) (h' : SqL X.K H a ys) : xs = ys := by
  obtain ⟨its, r, ⟨o, n, e, _, _, d⟩, _⟩ := I.list h
  obtain ⟨its', r', ⟨o', n', e', _, _, d'⟩, _⟩ := I.list h'
  rw [e] at e'; cases e'
  rw [d] at d'
  injection d' with d1 _
  have : its = its' := by simpa using congrArg Array.toList d1
  subst this
  exact r.inj r'
end

/-! ### another wish about exceptions -/
abbrev Cx.wish (X : Cx) (E : Value → Shared → Prop) : Cx := { X with xe := E }
/-- no exception leaves -/
abbrev Cx.nox (X : Cx) : Cx := X.wish fun _ _ => False
theorem Cx.Ok.wish {X : Cx} (ok : X.Ok) (E : Value → Shared → Prop) : (X.wish E).Ok :=
  ⟨ok.mod, ok.kind, ok.glob, ok.blt, ok.above, ok.inj, ok.has, ok.cab, ok.hd, ok.frames, ok.stk, ok.exf, ok.bs, ok.bsz, ok.noex, ok.exfs, ok.funs, ok.frf⟩
theorem Cx.Ok.unwish {X : Cx} {E : Value → Shared → Prop} (ok : (X.wish E).Ok) : X.Ok :=
  ⟨ok.mod, ok.kind, ok.glob, ok.blt, ok.above, ok.inj, ok.has, ok.cab, ok.hd, ok.frames, ok.stk, ok.exf, ok.bs, ok.bsz, ok.noex, ok.exfs, ok.funs, ok.frf⟩
section
variable {X : Cx} {pins : List (Addr × Obj)} {σ : St} {H : Hp} {s : Shared} {E : Value → Shared → Prop}
theorem Inv.wish (I : Inv X pins σ H s) (E : Value → Shared → Prop) : Inv (X.wish E) pins σ H s := ⟨I.ok.wish E, I.os, I.bare, I.base, I.loc, I.cell, I.free, I.freeC, I.pin, I.hok, I.len⟩
theorem Inv.unwish (I : Inv (X.wish E) pins σ H s) : Inv X pins σ H s := ⟨I.ok.unwish, I.os, I.bare, I.base, I.loc, I.cell, I.free, I.freeC, I.pin, I.hok, I.len⟩
theorem SP.unwish {D : Ends} {f : Flow} {s' : Shared} (h : SP (X.wish E) pins D f s') : SP X pins D f s' := by
  cases f with
  | next => obtain ⟨σ', H', I, q⟩ := h; exact ⟨σ', H', I.unwish, q⟩
  | brk => obtain ⟨σ', H', I, q⟩ := h; exact ⟨σ', H', I.unwish, q⟩
  | cont => obtain ⟨σ', H', I, q⟩ := h; exact ⟨σ', H', I.unwish, q⟩
  | ret u => obtain ⟨v, σ', H', I, r, q⟩ := h; exact ⟨v, σ', H', I.unwish, r, q⟩
theorem PE.nox {e : Expr} {t : TE} (h : PE X.nox e t) : PE X e t := fun pins s σ H Q I hw =>
  wpAny_mono (h pins s σ H Q (I.wish _) hw) (fun _ _ ⟨v, H', I', r, q⟩ => ⟨v, H', I'.unwish, r, q⟩) fun _ _ z => False.elim z
theorem PT.nox {e : Expr} {t : TT} (h : PT X.nox e t) : PT X e t := fun pins s σ H Q I hw =>
  wpAny_mono (h pins s σ H Q (I.wish _) hw) (fun _ _ ⟨H', I', q⟩ => ⟨H', I'.unwish, q⟩) fun _ _ z => False.elim z
theorem PSs.nox {st : List Stmt} {t : TS} (h : PSs X.nox st t) : PSs X st t := fun pins s σ H D I hw =>
  wpAny_mono (h pins s σ H D (I.wish _) hw) (fun _ _ q => q.unwish) fun _ _ z => False.elim z
end

/-! ### blocks and small statements -/
section
variable {X : Cx} {st : Stmt} {rest : List Stmt} {t u : TS} {e : Expr} {te : TE} {pos : Pos}
def tNext : TS := fun D σ H => D.nx σ H
def tSeq (t u : TS) : TS := fun D σ H => t { D with nx := u D } σ H
theorem pss_nil : PSs X [] tNext := fun _ _ σ H _ I h => wpAny_execs_nil ⟨σ, H, I, h⟩
theorem pss_cons (h1 : PS X st t) (h2 : PSs X rest u) : PSs X (st :: rest) (tSeq t u) := by
  intro pins s σ H D I h
  refine wpAny_execs_cons (thn (h1 pins s σ H { D with nx := u D } I h) fun f s1 q => ?_)
  cases f with
  | next =>
    obtain ⟨σ', H', I', q⟩ := q
    exact h2 pins s1 σ' H' D I' q
  | ret v => exact q
  | brk => exact q
  | cont => exact q
theorem pss_one (h1 : PS X st t) : PSs X [st] t := by
  intro pins s σ H D I h
  refine wpAny_execs_cons (thn (h1 pins s σ H D I h) fun f s1 q => ?_)
  cases f with
  | next => exact wpAny_execs_nil q
  | ret v => exact q
  | brk => exact q
  | cont => exact q
/-- in a def's body nothing is shown -/
theorem Inv.quiet {pins : List (Addr × Obj)} {σ : St} {H : Hp} {s : Shared} (I : Inv X pins σ H s) : interactive X.env = false := by simp [interactive, I.ok.kind]
/-- an expression whose value is dropped -/
def tDrop (te : TE) : TS := fun D σ H => te σ H fun _ H1 => D.nx σ H1
theorem ps_expr (he : PE X e te) (hs : swapsWith e none pos.line X.env = pure false := by rfl) : PS X (.Expr e pos) (tDrop te) := by
  intro pins s σ H D I h
  exact wpAny_Expr_any (thn (he pins s σ H _ I h) fun v s1 ⟨x, H1, I1, r1, q1⟩ => ⟨σ, H1, I1, q1⟩) I.quiet hs
def tRet (te : TE) : TS := fun D σ H => te σ H D.rt
theorem ps_ret (he : PE X e te) : PS X (.Return (some e) pos) (tRet te) := by
  intro pins s σ H D I h
  exact wpAny_Return_some (thn (he pins s σ H _ I h) fun v s1 ⟨x, H1, I1, r1, q1⟩ => ⟨x, σ, H1, I1, r1, q1⟩)
def tIfS (c : TT) (t u : TS) : TS := fun D σ H => c σ H fun b H1 => if b = true then t D σ H1 else u D σ H1
theorem ps_if {c : Expr} {a b : List Stmt} {tc : TT} (hc : PT X c tc) (ha : PSs X a t) (hb : PSs X b u) : PS X (.If c a b pos) (tIfS tc t u) := by
  intro pins s σ H D I h
  refine wpAny_If (thn (hc pins s σ H _ I h) fun d s1 ⟨H1, I1, q1⟩ => ?_)
  cases d with
  | true => exact ha pins s1 σ H1 D I1 q1
  | false => exact hb pins s1 σ H1 D I1 q1
end

/-! ### targets -/
abbrev TG := V → St → Hp → (St → Hp → Prop) → Prop
abbrev TGs := List V → St → Hp → (St → Hp → Prop) → Prop
def PG (X : Cx) (target : Expr) (t : TG) : Prop :=
  ∀ (pins : List (Addr × Obj)) (s : Shared) (σ : St) (H : Hp) (v : V) (u : Value) (Q : St → Hp → Prop), Inv X pins σ H s → RelV v u → t v σ H Q →
    wpAny (model X.prog X.w) X.A (assign target X.env u) (fun _ s' => ∃ σ' H', Inv X pins σ' H' s' ∧ Q σ' H') X.xe s
/-- several targets, one after another -/
def PGs (X : Cx) (ts : List Expr) (t : TGs) : Prop :=
  ∀ (pins : List (Addr × Obj)) (s : Shared) (σ : St) (H : Hp) (vs : List V) (us : List Value) (Q : St → Hp → Prop), Inv X pins σ H s → Vals vs us → t vs σ H Q →
    wpAny (model X.prog X.w) X.A (assignInOrder ((assignEach ts X.env).map (·.2)) us) (fun _ s' => ∃ σ' H', Inv X pins σ' H' s' ∧ Q σ' H') X.xe s
section
variable {X : Cx} {pos : Pos}
def gName (i : Nat) : TG := fun v σ H Q => Q (σ.set i (some v)) H
theorem pg_name {i : Nat} {x : Str} (hN : X.N.Nodup) (hi : X.N[i]? = some x) (hx : Loc X.env.scope x) (hf : X.fn x = true ∨ X.env.scope.names.lookup x = some .local := by first | exact .inl rfl | exact .inr rfl | assumption) : PG X (.Name x pos) (gName i) := by
  intro pins s σ H v u Q I r h
  exact wpAny_assign_Name (store_ok I hN hi hx r (fun s' I' => ⟨_, H, I', h⟩) hf)
def gNil : TGs := fun vs σ H Q => vs = [] ∧ Q σ H
def gCons (t : TG) (u : TGs) : TGs := fun vs σ H Q => ∃ v r, vs = v :: r ∧ t v σ H fun σ' H' => u r σ' H' Q
theorem pgs_nil : PGs X [] gNil := by
  intro pins s σ H vs us Q I r h
  obtain ⟨e, h⟩ := h
  subst e
  cases r
  exact assignInOrder_nil ⟨σ, H, I, h⟩
theorem pgs_cons {e : Expr} {es : List Expr} {t : TG} {u : TGs} (h1 : PG X e t) (h2 : PGs X es u)
    (hs : (assignEach (e :: es) X.env).map (·.2) = assign e X.env :: (assignEach es X.env).map (·.2) := by rfl) : PGs X (e :: es) (gCons t u) := by
  intro pins s σ H vs us Q I r h
  obtain ⟨v, vr, e1, h⟩ := h
  subst e1
  cases r with
  | cons r rr =>
    rw [hs]
    refine assignInOrder_cons (thn (h1 pins s σ H _ _ _ I r h) fun _ s1 ⟨σ1, H1, I1, q1⟩ => ?_)
    exact h2 pins s1 σ1 H1 _ _ Q I1 rr q1
/-- (a, b, ..) = a tuple of that length -/
def gTup (K : PySem.W.Frag) (n : Nat) (t : TGs) : TG := fun v σ H Q => ∃ a xs, v = .ref a ∧ SqT K H a xs ∧ xs.length = n ∧ t xs σ H Q
theorem pg_tup {es : List Expr} {k : Nat} {t : TGs} {n : Nat} (hc : X.calm = true) (h : PGs X es t)
    (hn : (assignEach es X.env).length = n := by rfl) (hst : (assignEach es X.env).findIdx? (·.1) = none := by rfl) : PG X (.Tuple es k pos) (gTup X.K n t) := by
  intro pins s σ H v u Q I r hw
  obtain ⟨a, xs, e1, hq, hl, hw⟩ := hw
  subst e1
  cases r
  obtain ⟨its, rv, ht, hz⟩ := I.tuple hq
  refine assign_Tuple_tuple (I.ok.hd hc) ht (by simp [hn, ← hl, rv.length]) hst fun h' hx => ?_
  have I1 : Inv X pins σ H { s with heap := h' } := I.kept (t' := s.toks) fun b o e => hx b o (Nat.ne_of_lt (Heap.lt_size e)) e
  exact h pins _ σ H xs _ Q I1 (by simpa using rv) hw
/-- target = value -/
def tAsg (te : TE) (g : TG) : TS := fun D σ H => te σ H fun x H1 => g x σ H1 D.nx
theorem ps_asg {tg e : Expr} {te : TE} {g : TG} (he : PE X e te) (hg : PG X tg g) (hs : swapsWithSole [tg] e pos.line X.env = pure false := by rfl) (hw : swappedStores [tg] e X.env = pure none := by rfl)
    (h1 : (assignEach [tg] X.env).map (·.2) = [assign tg X.env] := by rfl) : PS X (.Assign [tg] e pos) (tAsg te g) := by
  intro pins s σ H D I h
  refine wpAny_Assign_stores (thn (he pins s σ H _ I h) fun v s1 ⟨x, H1, I1, r1, q1⟩ => ?_) hs hw
  rw [h1]
  exact thn (hg pins s1 σ H1 x v _ I1 r1 q1) fun _ s2 q => q
/-- name = value -/
theorem ps_set {i : Nat} {x : Str} {e : Expr} {te : TE} {pos' : Pos} (hN : X.N.Nodup) (hi : X.N[i]? = some x) (hx : Loc X.env.scope x) (he : PE X e te) (hs : swapsWith e (some (.Name x pos')) pos.line X.env = pure false := by rfl) (hf : X.fn x = true ∨ X.env.scope.names.lookup x = some .local := by first | exact .inl rfl | exact .inr rfl | assumption) :
    PS X (.Assign [.Name x pos'] e pos) (tAsg te (gName i)) := by
  intro pins s σ H D I h
  refine wpAny_Assign_Name (thn (he pins s σ H _ I h) fun v s1 ⟨y, H1, I1, r1, q1⟩ => ?_) hs
  exact store_ok I1 hN hi hx r1 (fun s2 I2 => ⟨_, H1, I2, q1⟩) hf
end

/-! ### while -/
section
variable {X : Cx} {pos : Pos}
end

/-! ### what a loop or a comprehension walks -/
/-- at turn i: it yields x (the heap may grow), or it stops -/
structure It where
  go : Nat → Hp → Prop
  yld : Nat → Hp → V → Hp → Prop
  stop : Nat → Hp → Prop
/-- the iterator's own objects may turn: they are not the frame's, not pinned, younger than the entry (or a comprehension's own) -/
def FpOk (X : Cx) (pins : List (Addr × Obj)) (H : Hp) (b : Addr) : Prop :=
  H b = none ∧ b ≠ X.env.locals ∧ b ∉ X.fs ∧ (b ∈ X.ex ∨ X.s₀.heap.objs.size ≤ b) ∧ (∀ x c, X.env.cells.lookup x = some c → c ≠ b) ∧ ∀ p ∈ X.pn ++ pins, p.1 ≠ b
theorem Inv.fpOk {X : Cx} {pins : List (Addr × Obj)} {σ : St} {H H' : Hp} {s : Shared} {b : Addr} (I : Inv X pins σ H s) (hb : s.heap.objs.size ≤ b) (hn : H' b = none) : FpOk X pins H' b := by
  refine ⟨hn, Nat.ne_of_gt (Nat.lt_of_lt_of_le I.lt hb), I.nofs hb, .inr (Nat.le_trans I.sz hb), fun x c e z => ?_, fun p hp z => ?_⟩
  · obtain ⟨v, q⟩ := I.cell x c e
    exact absurd (Nat.lt_of_lt_of_le q.lt (by rw [z]; exact hb)) (Nat.lt_irrefl _)
  · exact absurd (Nat.lt_of_lt_of_le (Heap.lt_size (I.pin p hp).1) (by rw [z]; exact hb)) (Nat.lt_irrefl _)
structure Turn (P : Program) (w : World) (K : PySem.W.Frag) (tg : Expr) (J : It) (fp : List Addr) (it : Addr) (tn : Nat → Heap → Prop) : Prop where
  mem : it ∈ fp
  obj : ∀ i h, tn i h → ∀ b ∈ fp, ∃ o, h.get? b = some o ∧ ∀ v, o.data ≠ .cell v
  keep : ∀ i h h', tn i h → (∀ b ∈ fp, ∀ o, h.get? b = some o → h'.get? b = some o) → tn i h'
  item : ∀ (X : Cx), X.prog = P → X.w = w → X.K = K → X.calm = true → ∀ (i : Nat) (pins : List (Addr × Obj)) (s : Shared) (σ : St) (H : Hp) (E : Value → Shared → Prop), Inv X pins σ H s → (∀ b ∈ fp, FpOk X pins H b) → tn i s.heap → J.go i H →
    wpAny (model P w) X.A (pyNext (.ref it)) (fun r s1 => ∃ u, r = some u ∧
      wpAny (model P w) X.A (letOwnedTupleGo tg (.ref it) u) (fun _ s2 => ∃ x H', Inv X pins σ H' s2 ∧ RelV x u ∧ J.yld i H x H' ∧ tn (i + 1) s2.heap ∧ ∀ b ∈ fp, H' b = none) E s1) E s
  done : ∀ (X : Cx), X.prog = P → X.w = w → X.K = K → X.calm = true → ∀ (i : Nat) (pins : List (Addr × Obj)) (s : Shared) (σ : St) (H : Hp) (E : Value → Shared → Prop), Inv X pins σ H s → (∀ b ∈ fp, FpOk X pins H b) → tn i s.heap → J.stop i H →
    wpAny (model P w) X.A (pyNext (.ref it)) (fun r s1 => r = none ∧ Inv X pins σ H s1) E s
  self : ∀ (A : Around) (i : Nat) (s : Shared) (Q : Value → Shared → Prop) (E : Value → Shared → Prop), tn i s.heap → Q (.ref it) s → wpAny (model P w) A (pyIter (.ref it)) Q E s
abbrev TI := St → Hp → (It → Hp → Prop) → Prop
/-- an iterator has come -/
def PIE (X : Cx) (pins : List (Addr × Obj)) (σ : St) (tg : Expr) (R : It → Hp → Prop) (itv : Value) (s2 : Shared) : Prop :=
  ∃ (it : Addr) (fp : List Addr) (tn : Nat → Heap → Prop) (J : It) (H' : Hp), itv = .ref it ∧ Inv X pins σ H' s2 ∧ Turn X.prog X.w X.K tg J fp it tn ∧ tn 0 s2.heap ∧ (∀ b ∈ fp, FpOk X pins H' b) ∧ R J H'
def PI (X : Cx) (tg iter : Expr) (wi : TI) : Prop :=
  ∀ (pins : List (Addr × Obj)) (s : Shared) (σ : St) (H : Hp) (R : It → Hp → Prop), Inv X pins σ H s → wi σ H R →
    wpAny (model X.prog X.w) X.A (eval iter X.env) (fun v s1 => wpAny (model X.prog X.w) X.A (pyIter v) (PIE X pins σ tg R) X.xe s1) X.xe s

/-- the step ahead of the store is nothing for an iterator that keeps no tuple -/
theorem go_of {M : Model} {A : Around} {E : Value → Shared → Prop} {s : Shared} {tg : Expr} {it : Addr} {u : Value} {o : Obj} {n : String} {vs : Array Value} {Q : Unit → Shared → Prop} (ho : s.heap.get? it = some o) (hc : o.cls = .type n) (hd : o.data = .fields vs)
    (hn : ["enumerate", "zip", "dict_itemiterator", "dict_reverseitemiterator", "odict_iterator", "itertools.zip_longest", "itertools.pairwise"].contains n = false) (hQ : Q () s) : wpAny M A (letOwnedTupleGo tg (.ref it) u) Q E s := by
  unfold letOwnedTupleGo
  cases tg <;> first
    | exact wpAny_pure hQ
    | (cases u <;> first
        | exact wpAny_pure hQ
        | (refine wpAny_bind (wpAny_load ho ?_)
           rw [hc, hd]
           show wpAny M A (if (["enumerate", "zip", "dict_itemiterator", "dict_reverseitemiterator", "odict_iterator", "itertools.zip_longest", "itertools.pairwise"].contains n && vs[0]? == some (rawInt _)) = true then _ else _) Q E s
           rw [if_neg (by intro h; rw [hn, Bool.false_and] at h; cases h)]
           exact wpAny_pure hQ))

/-- the list at a, as it stands at each turn (a loop may append to it) -/
def Itl (K : PySem.W.Frag) (a : Addr) : It :=
  ⟨fun i H => ∃ xs x, SqL K H a xs ∧ xs[i]? = some x, fun i H x H' => H' = H ∧ ∀ xs, SqL K H a xs → xs[i]? = some x, fun i H => ∃ xs, SqL K H a xs ∧ xs.length ≤ i⟩
/-- lo, lo + 1, .. (n of them) -/
def Itr (lo : Int) (n : Nat) : It := ⟨fun i _ => i < n, fun i H x H' => H' = H ∧ x = .int (lo + i), fun i _ => n ≤ i⟩
theorem turn_list {P : Program} {w : World} {K : PySem.W.Frag} {tg : Expr} (a it : Addr) : Turn P w K tg (Itl K a) [it] it (fun i h => h.IsListIter it a i) where
  mem := by simp
  obj := fun i h st b hb => by
    have e : b = it := by simpa using hb
    subst e
    obtain ⟨o, e, c, d⟩ := st
    exact ⟨o, e, fun v z => by rw [d] at z; cases z⟩
  keep := fun i h h' st k => st.at fun o e => k it (by simp) o e
  item := by
    intro X hP hw hK hc i pins s σ H E I hf st hg
    subst hP hw hK
    obtain ⟨xs, x, hq, hx⟩ := hg
    obtain ⟨its, rv, p, hz⟩ := I.list hq
    obtain ⟨u, hu, ru⟩ := rv.get hx
    obtain ⟨f0, f1, f2, f3, f4, f5⟩ := hf it (by simp)
    refine wpAny_pyNext_list_item st p.isList (x := u) (by simpa using hu) fun h' st' sb => ?_
    have I1 : Inv X pins σ H { s with heap := h' } := I.turned (t' := s.toks) (fun b o hb e => (sb.2 b hb).trans e) f0 f1 f3 f4 f5
    obtain ⟨o, e, c, d⟩ := id st'
    exact ⟨u, rfl, go_of (s := { s with heap := h' }) e c d (by decide) ⟨x, H, I1, ru, ⟨rfl, fun ys hy => by rw [I.list_inj hy hq]; exact hx⟩, st', fun b hb => (hf b hb).1⟩⟩
  done := by
    intro X hP hw hK hc i pins s σ H E I hf st hg
    subst hP hw hK
    obtain ⟨xs, hq, hx⟩ := hg
    obtain ⟨its, rv, p, hz⟩ := I.list hq
    obtain ⟨f0, f1, f2, f3, f4, f5⟩ := hf it (by simp)
    have hl := rv.length
    exact wpAny_pyNext_list_end (I.ok.hd hc) st p.isList (by simp; omega) fun h' eb => ⟨rfl, I.turned (t' := s.toks) (fun b o hb e => eb b o hb e) f0 f1 f3 f4 f5⟩
  self := fun _ _ _ _ _ st h => wpAny_pyIter_listiter st h
theorem turn_range {P : Program} {w : World} {K : PySem.W.Frag} {tg : Expr} (it : Addr) (lo : Int) (n : Nat) : Turn P w K tg (Itr lo n) [it] it (fun i h => IsRangeIter h it (lo + (i : Nat) * 1) ((n : Int) - (i : Nat)) 1) where
  mem := by simp
  obj := fun i h st b hb => by
    have e : b = it := by simpa using hb
    subst e
    exact ⟨_, st, fun v z => by
      have z' : Data.fields _ = Data.cell v := z
      cases z'⟩
  keep := fun i h h' st k => k it (by simp) _ st
  item := by
    intro X hP hw hK hc i pins s σ H E I hf st hg
    subst hP hw hK
    obtain ⟨f0, f1, f2, f3, f4, f5⟩ := hf it (by simp)
    have W := Walks.range (prog := X.prog) (w := X.w) (I.ok.hd hc) it lo 1 n
    refine W.item i s _ _ hg st fun v h' tk hv st' kk => ?_
    obtain ⟨t, rfl⟩ := hv
    have I1 : Inv X pins σ H { s with heap := h', toks := tk } := I.turned (fun b o hb e => kk b o (by simpa using hb) e) f0 f1 f3 f4 f5
    refine ⟨_, rfl, go_of (s := { s with heap := h', toks := tk }) (n := "range_iterator") st' rfl rfl (by decide) ⟨.int (lo + i), H, I1, ⟨t, ?_⟩, ⟨rfl, rfl⟩, st', fun b hb => (hf b hb).1⟩⟩
    rw [Int.mul_one]
  done := by
    intro X hP hw hK hc i pins s σ H E I hf st hg
    subst hP hw hK
    obtain ⟨f0, f1, f2, f3, f4, f5⟩ := hf it (by simp)
    exact wpAny_pyNext_range_end (I.ok.hd hc) st (by have : n ≤ i := hg; omega) fun h' eb => ⟨rfl, I.turned (t' := s.toks) (fun b o hb e => eb b o hb e) f0 f1 f3 f4 f5⟩
  self := fun _ _ _ _ _ st h => wpAny_pyIter_rangeiter st h
end L2

namespace L2
open PySem PySem.Spec PyProof.Rows
section
variable {X : Cx} {tg : Expr}
def iList (K : PySem.W.Frag) (tl : TE) : TI := fun σ H R => tl σ H fun x H1 => ∃ a, x = .ref a ∧ (∃ xs, SqL K H1 a xs) ∧ R (Itl K a) H1
theorem pi_list {l : Expr} {tl : TE} (hl : PE X l tl) : PI X tg l (iList X.K tl) := by
  intro pins s σ H R I h
  refine thn (hl pins s σ H _ I h) fun v s1 ⟨x, H1, I1, r1, q1⟩ => ?_
  obtain ⟨a, e, ⟨xs, hq⟩, q⟩ := q1
  subst e
  cases r1
  obtain ⟨its, rv, p, hz⟩ := I1.list hq
  refine wpAny_pyIter_list p.isList ?_
  refine ⟨s1.heap.objs.size, [s1.heap.objs.size], _, _, H1, rfl, I1.kept (t' := s1.toks) fun b o e => Heap.get?_push_of_some _ e, turn_list a _, ⟨_, Heap.get?_push_size _ rfl, rfl, rfl⟩, fun b hb => ?_, q⟩
  have e : b = s1.heap.objs.size := by simpa using hb
  subst e
  exact I1.fpOk (Nat.le_refl _) (I1.hok.fresh (Nat.le_refl _))
/-! ### for -/
/-- W: the invariant by the turn and a measure; N: what the body is to reach -/
def tFor (wi : TI) (g : TG) (tb : TS) : TS := fun D σ H => wi σ H fun J H1 => ∃ W : Nat → Nat → St → Hp → Prop, (∃ m, W 0 m σ H1) ∧ ∀ i m σ H, W i m σ H →
  (J.stop i H ∧ D.nx σ H) ∨ (J.go i H ∧ ∃ N : St → Hp → Prop, (∀ σ' H', N σ' H' → ∃ m', m' < m ∧ W (i + 1) m' σ' H') ∧ ∀ x H', J.yld i H x H' → g x σ H' fun σ2 H2 => tb { D with nx := N, ct := N, bk := D.nx } σ2 H2)
/-- the records at fp as they stand -/
def pinsAt (fp : List Addr) (h : Heap) : List (Addr × Obj) := fp.filterMap fun b => (h.get? b).map fun o => (b, o)
theorem mem_pinsAt {fp : List Addr} {h : Heap} {b : Addr} {o : Obj} (hb : b ∈ fp) (e : h.get? b = some o) : (b, o) ∈ pinsAt fp h := List.mem_filterMap.mpr ⟨b, hb, by rw [e]; rfl⟩
theorem of_pinsAt {fp : List Addr} {h : Heap} {p : Addr × Obj} (hp : p ∈ pinsAt fp h) : p.1 ∈ fp ∧ h.get? p.1 = some p.2 := by
  obtain ⟨b, hb, e⟩ := List.mem_filterMap.mp hp
  cases q : h.get? b with
  | none => rw [q] at e; cases e
  | some o =>
    rw [q] at e
    have e' : (b, o) = p := Option.some.inj e
    subst e'
    exact ⟨hb, q⟩
theorem Inv.pinned {pins : List (Addr × Obj)} {σ : St} {H : Hp} {s : Shared} {fp : List Addr} (I : Inv X pins σ H s) (hf : ∀ b ∈ fp, FpOk X pins H b) (ho : ∀ b ∈ fp, ∃ o, s.heap.get? b = some o ∧ ∀ v, o.data ≠ .cell v) : Inv X (pins ++ pinsAt fp s.heap) σ H s :=
  I.pins_of fun p hp => (List.mem_append.mp hp).elim (fun z => I.pin p (List.mem_append_right _ z)) fun z => by
    obtain ⟨hb, e⟩ := of_pinsAt z
    obtain ⟨f0, f1, f2, _⟩ := hf p.1 hb
    obtain ⟨o, e', d⟩ := ho p.1 hb
    rw [e] at e'; cases e'
    exact ⟨e, f0, f1, f2, d⟩
theorem Inv.unpinned {pins pl : List (Addr × Obj)} {σ : St} {H : Hp} {s : Shared} (I : Inv X (pins ++ pl) σ H s) : Inv X pins σ H s := I.pins_of fun p hp => I.pin p (List.mem_append_right _ (List.mem_append_left _ hp))
theorem ps_for {iter : Expr} {body : List Stmt} {wi : TI} {g : TG} {tb : TS} {pos : Pos} (hp : PassesOwn (model X.prog X.w) X.A X.env X.xe) (hc : X.calm = true) (hi : PI X tg iter wi) (hg : PG X tg g) (hb : PSs X body tb)
    (hs : ∀ x, foldedSetIterable iter X.env x = pure x := by intro _; rfl) : PS X (.For tg iter body [] pos) (tFor wi g tb) := by
  intro pins s σ H D I h
  refine wpAny_For (thn (hi pins s σ H _ I h) fun v s1 h1 => thn h1 fun itv s2 h2 => ?_) hs
  obtain ⟨it, fp, tn, J, H2, e, I2, T, st2, f2, W, ⟨m0, w0⟩, turn⟩ := h2
  subst e
  -- what stays true of the iterator's objects through the loop
  have stat : ∀ {H' : Hp}, (∀ b ∈ fp, H' b = none) → ∀ b ∈ fp, FpOk X pins H' b := fun hn b hb => ⟨hn b hb, (f2 b hb).2⟩
  refine codeAny_forLoop_any (fun n s' => ∃ i σ' H', Inv X pins σ' H' s' ∧ tn i s'.heap ∧ (∀ b ∈ fp, H' b = none) ∧ W i n σ' H') ?_ m0 ⟨0, σ, H2, I2, st2, fun b hb => (f2 b hb).1, w0⟩
  rintro n s3 ⟨i, σ3, H3, I3, st3, fr3, w3⟩
  rcases turn i n σ3 H3 w3 with ⟨stop, qn⟩ | ⟨go, N, hN, step⟩
  · refine wpAny_passesOwn hp (thn (T.done X rfl rfl rfl hc i pins s3 σ3 H3 X.xe I3 (stat fr3) st3 stop) fun r s4 ⟨hr, I4⟩ => ?_)
    subst hr
    exact wpAny_execs_nil ⟨σ3, H3, I4, qn⟩
  · refine wpAny_passesOwn hp (thn (T.item X rfl rfl rfl hc i pins s3 σ3 H3 X.xe I3 (stat fr3) st3 go) fun r s4 ⟨u, hr, h4⟩ => ?_)
    subst hr
    refine wpAny_passesOwn hp (thn h4 fun _ s5 ⟨x, H5, I5, r5, y5, st5, fr5⟩ => ?_)
    have I5' := I5.pinned (stat fr5) (T.obj _ _ st5)
    refine wpAny_passesOwn hp (thn (hg _ s5 σ3 H5 x u _ I5' r5 (step x H5 y5)) fun _ s6 ⟨σ6, H6, I6, q6⟩ => ?_)
    refine wpAny_passesOwn hp (thn (hb _ s6 σ6 H6 _ I6 q6) fun f s7 q7 => ?_)
    have again : ∀ {σ7 : St} {H7 : Hp}, Inv X (pins ++ pinsAt fp s5.heap) σ7 H7 s7 → N σ7 H7 → ∃ m, m < n ∧ ∃ i σ' H', Inv X pins σ' H' s7 ∧ tn i s7.heap ∧ (∀ b ∈ fp, H' b = none) ∧ W i m σ' H' := fun {σ7 H7} I7 n7 => by
      obtain ⟨m', hm, w7⟩ := hN σ7 H7 n7
      refine ⟨m', hm, i + 1, σ7, H7, I7.unpinned, T.keep _ _ _ st5 fun b hb o e => (I7.pin (b, o) (List.mem_append_right _ (List.mem_append_right _ (mem_pinsAt hb e)))).1, fun b hb => ?_, w7⟩
      obtain ⟨o, e, d⟩ := T.obj _ _ st5 b hb
      exact (I7.pin (b, o) (List.mem_append_right _ (List.mem_append_right _ (mem_pinsAt hb e)))).2.1
    cases f with
    | next => obtain ⟨σ7, H7, I7, n7⟩ := q7; exact again I7 n7
    | cont => obtain ⟨σ7, H7, I7, n7⟩ := q7; exact again I7 n7
    | brk => obtain ⟨σ7, H7, I7, q7⟩ := q7; exact ⟨σ7, H7, I7.unpinned, q7⟩
    | ret v => obtain ⟨x7, σ7, H7, I7, r7, q7⟩ := q7; exact ⟨x7, σ7, H7, I7.unpinned, r7, q7⟩
end

/-! ### the forms one uses -/
end L2

namespace L2
open PySem PySem.Spec PyProof.Rows

abbrev R2 := V → V → Hp → VK → Prop
/-- a two-place operation on values: f is binaryOp op, inplaceOp op or compareOp op -/
def OpR (X : Cx) (f : Value → Value → Sem Value) (r : R2) : Prop :=
  ∀ (pins : List (Addr × Obj)) (s : Shared) (σ : St) (H : Hp) (x y : V) (v u : Value) (Q : VK), Inv X pins σ H s → RelV x v → RelV y u → r x y H Q →
    wpAny (model X.prog X.w) X.A (f v u) (EP X pins σ Q) X.xe s
/-- a one-place operation -/
def UnR (X : Cx) (f : Value → Sem Value) (r : V → Hp → VK → Prop) : Prop :=
  ∀ (pins : List (Addr × Obj)) (s : Shared) (σ : St) (H : Hp) (x : V) (v : Value) (Q : VK), Inv X pins σ H s → RelV x v → r x H Q →
    wpAny (model X.prog X.w) X.A (f v) (EP X pins σ Q) X.xe s
/-- a call of a value that is known (a builtin, a type) with values -/
def CallR (X : Cx) (f : Value) (r : List V → Hp → VK → Prop) : Prop :=
  ∀ (pins : List (Addr × Obj)) (s : Shared) (σ : St) (H : Hp) (xs : List V) (us : List Value) (Q : VK), Inv X pins σ H s → Vals xs us → r xs H Q →
    wpAny (model X.prog X.w) X.A (call f us) (EP X pins σ Q) X.xe s
def tOp (r : R2) (ta tb : TE) : TE := fun σ H Q => ta σ H fun x H1 => tb σ H1 fun y H2 => r x y H2 Q
def tUn (r : V → Hp → VK → Prop) (ta : TE) : TE := fun σ H Q => ta σ H fun x H1 => r x H1 Q
/-- ints in, under C, and a value out -/
def rI (C : Int → Int → Prop) (g : Int → Int → V) : R2 := fun x y H Q => ∃ i j, x = .int i ∧ y = .int j ∧ C i j ∧ Q (g i j) H
def rI0 (g : Int → Int → V) : R2 := fun x y H Q => ∃ i j, x = .int i ∧ y = .int j ∧ Q (g i j) H
def rU (g : Int → V) : V → Hp → VK → Prop := fun x H Q => ∃ i, x = .int i ∧ Q (g i) H

section
variable {X : Cx} {a b c : Expr} {ta tb tc : TE} {pos : Pos}

theorem binT (ha : PE X a ta) (hb : PE X b tb) {pins : List (Addr × Obj)} {s : Shared} {σ : St} {H : Hp} {R : V → V → Hp → Prop} (I : Inv X pins σ H s)
    (h : ta σ H fun x H1 => tb σ H1 fun y H2 => R x y H2) {Q : Value → Shared → Prop} {f : Value → Value → Sem Value}
    (hf : ∀ v u s2 x y H2, Inv X pins σ H2 s2 → RelV x v → RelV y u → R x y H2 → wpAny (model X.prog X.w) X.A (f v u) Q X.xe s2) :
    wpAny (model X.prog X.w) X.A (eval a X.env) (fun v s₁ => wpAny (model X.prog X.w) X.A (eval b X.env) (fun u s₂ => wpAny (model X.prog X.w) X.A (f v u) Q X.xe s₂) X.xe s₁) X.xe s := by
  refine thn (ha pins s σ H _ I h) fun v s1 ⟨x, H1, I1, r1, q1⟩ => ?_
  refine thn (hb pins s1 σ H1 _ I1 q1) fun u s2 ⟨y, H2, I2, r2, q2⟩ => ?_
  exact hf v u s2 x y H2 I2 r1 r2 q2

theorem pe_op {op : Operator} {r : R2} (ho : OpR X (binaryOp op) r) (ha : PE X a ta) (hb : PE X b tb) : PE X (.BinOp a op b pos) (tOp r ta tb) := by
  intro pins s σ H Q I h
  exact wpAny_BinOp (binT ha hb I h fun v u s2 x y H2 I2 rx ry q => ho pins s2 σ H2 x y v u Q I2 rx ry q)
theorem pe_un {op : UnaryOp} {r : V → Hp → VK → Prop} (ho : UnR X (unaryOp op) r) (ha : PE X a ta) : PE X (.UnaryOp op a pos) (tUn r ta) := by
  intro pins s σ H Q I h
  exact UnaryOp_ (thn (ha pins s σ H _ I h) fun v s1 ⟨x, H1, I1, r1, q1⟩ => ho pins s1 σ H1 x v Q I1 r1 q1)
/-! ### ints -/
theorem opI {f : Value → Value → Sem Value} {C : Int → Int → Prop} {g : Int → Int → Int}
    (rule : ∀ (i j : Int) (t u : Tok) (s : Shared) (Q : Value → Shared → Prop) (E : Value → Shared → Prop), C i j → Q (.int (g i j) s.toks) { s with toks := s.toks + 1 } → wpAny (model X.prog X.w) X.A (f (.int i t) (.int j u)) Q E s) :
    OpR X f (rI C fun i j => .int (g i j)) := by
  intro pins s σ H x y v u Q I rx ry h
  obtain ⟨i, j, rfl, rfl, hc, q⟩ := h
  obtain ⟨t, rfl⟩ := rx
  obtain ⟨t', rfl⟩ := ry
  exact rule i j t t' s _ _ hc ⟨.int (g i j), H, I.tok _, ⟨_, rfl⟩, q⟩
theorem opI0 {f : Value → Value → Sem Value} {g : Int → Int → Int}
    (rule : ∀ (i j : Int) (t u : Tok) (s : Shared) (Q : Value → Shared → Prop) (E : Value → Shared → Prop), Q (.int (g i j) s.toks) { s with toks := s.toks + 1 } → wpAny (model X.prog X.w) X.A (f (.int i t) (.int j u)) Q E s) :
    OpR X f (rI0 fun i j => .int (g i j)) := by
  intro pins s σ H x y v u Q I rx ry h
  obtain ⟨i, j, rfl, rfl, q⟩ := h
  obtain ⟨t, rfl⟩ := rx
  obtain ⟨t', rfl⟩ := ry
  exact rule i j t t' s _ _ ⟨.int (g i j), H, I.tok _, ⟨_, rfl⟩, q⟩
theorem opB0 {f : Value → Value → Sem Value} {g : Int → Int → Bool}
    (rule : ∀ (i j : Int) (t u : Tok) (s : Shared) (Q : Value → Shared → Prop) (E : Value → Shared → Prop), Q (.bool (g i j)) s → wpAny (model X.prog X.w) X.A (f (.int i t) (.int j u)) Q E s) :
    OpR X f (rI0 fun i j => .bl (g i j)) := by
  intro pins s σ H x y v u Q I rx ry h
  obtain ⟨i, j, rfl, rfl, q⟩ := h
  obtain ⟨t, rfl⟩ := rx
  obtain ⟨t', rfl⟩ := ry
  exact rule i j t t' s _ _ ⟨.bl (g i j), H, I, rfl, q⟩

def CDiv (i j : Int) : Prop := 0 < j ∧ j < 1073741824
def CPow (i j : Int) : Prop := 0 ≤ j ∧ j ≤ 1000000 ∧ i.natAbs < 2 ^ 64
def CMul (i j : Int) : Prop := (-(2 ^ 64) < i ∧ i < 2 ^ 64) ∨ (-(2 ^ 64) < j ∧ j < 2 ^ 64)
theorem CMul.ok {i j : Int} (h : CMul i j) : IntMulOk i j := by
  rcases h with ⟨h1, h2⟩ | ⟨h1, h2⟩
  · exact .of_left (intBits_le_64 h1 h2)
  · exact .of_right (intBits_le_64 h1 h2)
theorem op_add : OpR X (binaryOp .Add) (rI0 fun i j => .int (i + j)) := opI0 fun _ _ _ _ _ _ _ q => add_int q
theorem op_sub : OpR X (binaryOp .Sub) (rI0 fun i j => .int (i - j)) := opI0 fun _ _ _ _ _ _ _ q => sub_int q
/-- % by a positive divisor of any size -/
theorem op_mod : OpR X (binaryOp .Mod) (rI (fun _ j => 0 < j) fun i j => .int (i % j)) := opI fun i j _ _ _ _ _ hc q => by
  have h1 : (0 : Int) < j := hc
  exact mod_int' (by omega) (by rw [Int.fmod_eq_emod_of_nonneg i (by omega)]; exact q)
theorem unI {f : Value → Sem Value} {g : Int → Int}
    (rule : ∀ (i : Int) (t : Tok) (s : Shared) (Q : Value → Shared → Prop) (E : Value → Shared → Prop), Q (.int (g i) s.toks) { s with toks := s.toks + 1 } → wpAny (model X.prog X.w) X.A (f (.int i t)) Q E s) :
    UnR X f (rU fun i => .int (g i)) := by
  intro pins s σ H x v Q I rx h
  obtain ⟨i, rfl, q⟩ := h
  obtain ⟨t, rfl⟩ := rx
  exact rule i t s _ _ ⟨.int (g i), H, I.tok _, ⟨_, rfl⟩, q⟩
theorem un_neg : UnR X (unaryOp .USub) (rU fun i => .int (-i)) := unI fun _ _ _ _ _ q => neg_int q
/-! ### bools among ints: n += (a < b) -/
end

/-! ### comparisons -/
section
variable {X : Cx} {a b c : Expr} {ta tb tc : TE} {pos : Pos}
theorem op_lt : OpR X (compareOp .Lt) (rI0 fun i j => .bl (decide (i < j))) := opB0 fun _ _ _ _ _ _ _ q => lt_int q
/-- two rules for one operation: by cases -/
theorem OpR.or {f : Value → Value → Sem Value} {r r' : R2} (h : OpR X f r) (h' : OpR X f r') : OpR X f (fun x y H Q => r x y H Q ∨ r' x y H Q) := by
  intro pins s σ H x y v u Q I rx ry q
  rcases q with q | q
  · exact h pins s σ H x y v u Q I rx ry q
  · exact h' pins s σ H x y v u Q I rx ry q

theorem nomark (b : Expr) {op : CmpOp} (h : op ≠ .In := by decide) (h2 : op ≠ .NotIn := by decide) : behindInMarks op b = false := by
  have e1 : (op == CmpOp.In) = false := by cases op <;> first | rfl | exact absurd rfl h
  have e2 : (op == CmpOp.NotIn) = false := by cases op <;> first | rfl | exact absurd rfl h2
  cases b <;> simp [behindInMarks, e1, e2]
/-- a comparison as a value; hm: nomark b, or (for in, not in) by with_unfolding_all rfl -/
theorem pe_cmpR {op : CmpOp} {r : R2} (ho : OpR X (compareOp op) r) (ha : PE X a ta) (hb : PE X b tb) (hm : behindInMarks op b = false) : PE X (.Compare a [op] [b] pos) (tOp r ta tb) := by
  intro pins s σ H Q I h
  exact wpAny_Compare1 (binT ha hb I h fun v u s2 x y H2 I2 rx ry q => ho pins s2 σ H2 x y v u Q I2 rx ry q) hm
/-- a reading of a value as a test -/
def tTest (t : TE) : TT := fun σ H Q => t σ H fun x H' => ∃ k, x = .bl k ∧ Q k H'
theorem pt_cmpR {op : CmpOp} {r : R2} (ho : OpR X (compareOp op) r) (ha : PE X a ta) (hb : PE X b tb) (hm : behindInMarks op b = false) : PT X (.Compare a [op] [b] pos) (tTest (tOp r ta tb)) := by
  intro pins s σ H Q I h
  refine wpAny_isTrue_Compare1 (thn (ha pins s σ H _ I h) fun v s1 ⟨x, H1, I1, r1, q1⟩ => thn (hb pins s1 σ H1 _ I1 q1) fun u s2 ⟨y, H2, I2, r2, q2⟩ =>
    thn (ho pins s2 σ H2 x y v u _ I2 r1 r2 q2) fun c s3 ⟨z, H3, I3, r3, k, e, q3⟩ => ?_) hm
  subst e
  cases r3
  exact wpAny_truthy_bool ⟨H3, I3, q3⟩
/-! ### truth -/
theorem line63 : (sizeLine : Nat) < 2 ^ 63 := by rw [sizeLine_eq]; decide
/-! ### strs and bytes -/
theorem op_add_str : OpR X (binaryOp .Add) (fun x y H Q => ∃ i j, x = .str i ∧ y = .str j ∧ i.length + j.length ≤ sizeLine ∧ Q (.str (i ++ j)) H) := by
  intro pins s σ H x y v u Q I rx ry h
  obtain ⟨i, j, rfl, rfl, hz, q⟩ := h
  obtain ⟨t, rfl⟩ := rx
  obtain ⟨t', rfl⟩ := ry
  exact add_str (fun t' tk => ⟨.str (i ++ j), H, I.tok _, ⟨_, rfl⟩, q⟩) hz
/-! ### scalar builtins, by CallR -/
theorem vals1 {x : V} {us : List Value} (r : Vals [x] us) : ∃ u, us = [u] ∧ RelV x u := by
  cases r with
  | cons r1 r2 => cases r2; exact ⟨_, rfl, r1⟩
theorem vals2 {x y : V} {us : List Value} (r : Vals [x, y] us) : ∃ u w', us = [u, w'] ∧ RelV x u ∧ RelV y w' := by
  cases r with
  | cons r1 r2 =>
    cases r2 with
    | cons r3 r4 => cases r4; exact ⟨_, _, rfl, r1, r3⟩
theorem call_max2 (hc : X.calm = true) : CallR X (.builtin "max") (fun xs H Q => ∃ i j, xs = [.int i, .int j] ∧ Q (.int (if j > i then j else i)) H) := by
  intro pins s σ H xs us Q I r h
  obtain ⟨i, j, rfl, q⟩ := h
  obtain ⟨u, w', rfl, ⟨t, rfl⟩, ⟨t', rfl⟩⟩ := vals2 r
  refine max_two_ints (I.ok.hd hc) fun h' tk k => ⟨_, H, I.kept k, ?_, q⟩
  by_cases hj : j > i
  · rw [if_pos hj, if_pos hj]; exact ⟨_, rfl⟩
  · rw [if_neg hj, if_neg hj]; exact ⟨_, rfl⟩
end
end L2

namespace L2
open PySem PySem.Spec PyProof.Rows

/-! ### an instance, its attributes a map -/
structure ObjM (h : Heap) (x dx C : Addr) (mA : Str → Option Value) : Prop where
  obj : h.get? x = some (PySem.W.instObj C dx)
  ns : h.Ns1 dx mA
  ne : dx ≠ x

theorem lookIn_ns {h : Heap} {dx : Addr} {mA : Str → Option Value} (n : h.Ns1 dx mA) : ∃ od, h.get? dx = some od ∧ ∀ name, PySem.W.lookIn name od = some (mA name) := by
  obtain ⟨o, es, ep, ho, hd, hk, _, hm⟩ := n
  refine ⟨o, ho, fun name => ?_⟩
  have e := hm name
  unfold nsFind findBy at e
  rw [← Array.find?_toList] at e
  unfold PySem.W.lookIn
  rw [hd]
  dsimp only
  split
  · rename_i y q
    rw [q] at e
    exact congrArg some e
  · rename_i q
    rw [q] at e
    have a : es.toList.any (·.refKey) = false := by
      rw [List.any_eq_false]
      intro y hy
      obtain ⟨z, t, hkey⟩ := hk y (Array.mem_toList_iff.mp hy)
      simp [DictEntry.refKey, hkey]
    have a' : ¬ es.toList.any (·.refKey) = true := by rw [a]; exact Bool.false_ne_true
    rw [if_neg a']
    exact congrArg some e

theorem ObjM.look {h : Heap} {x dx C : Addr} {mA : Str → Option Value} (I : ObjM h x dx C mA) : ∃ od, PySem.W.InstAt h x (PySem.W.instObj C dx) C (some od) ∧ ∀ name, PySem.W.lookIn name od = some (mA name) :=
  let ⟨od, ho, hl⟩ := lookIn_ns I.ns
  ⟨od, ⟨I.obj, rfl, rfl, ho⟩, hl⟩

section
variable {prog : Program} {w : World} {A : Around} {E : Value → Shared → Prop} {s : Shared} {K : PySem.W.Frag} {x dx C f : Addr} {mA : Str → Option Value} {name : Str} {v : Value}

end

/-! ### the attributes as a list of pairs -/
def putF (f : Str) (v : V) : List (Str × V) → List (Str × V)
  | [] => [(f, v)]
  | (g, x) :: r => if g = f then (g, v) :: r else (g, x) :: putF f v r
theorem RelO.none_of {o : Option Value} (r : RelO none o) : o = none := by
  cases o with
  | none => rfl
  | some u => exact (show False from r).elim
section
variable {P : Program} {w : World} {H H' : Hp} {h h' : Heap} {a C dx : Addr} {fs fs' : List (Str × V)}
theorem ins_get (hok : HOk P w H h) (e : H a = some (.ins C dx fs)) : ∃ mA, ObjM h a dx C mA ∧ (∀ f, RelO (fs.lookup f) (mA f)) ∧ PySem.Within mA (fs.map (·.1)) ∧ fs.length ≤ 1000 ∧ H dx = some (.own a) := by
  obtain ⟨d, z, ne, ob, mA, n, r, q⟩ := (show ObjOk P w H h a (.ins C dx fs) from hok a _ e)
  exact ⟨mA, ⟨ob, n, ne⟩, r, q, z, d⟩
end

/-! ### what of the text a class must have -/
structure Cls (K : PySem.W.Frag) (C : Addr) : Prop where
  pg : PySem.W.plainGet K C Str.empty = true
  hd : PySem.W.hasDictIn K C = true
  po : PySem.W.plainOver K C = true
  sa : PySem.W.findIn K (.ref C) "__setattr__" = some (some (.builtin "object.__setattr__"))
theorem Cls.get {K : PySem.W.Frag} {C : Addr} (c : Cls K C) (f : Str) : PySem.W.plainGet K C f = true := c.pg
/-- no class of it has the name -/
def NoAttr (K : PySem.W.Frag) (C : Addr) (f : Str) : Prop := PySem.W.findIn K (.ref C) f = some none
/-- a constant of the class -/
structure Con (K : PySem.W.Frag) (C : Addr) (f : Str) (v : V) (u : Value) : Prop where
  at_ : PySem.W.findIn K (.ref C) f = some (some u)
  rel : RelV v u
  get : PySem.W.specialIn K u "__get__" = some none
  cp : PySem.W.copiedNames.contains f = false
/-- a method: a plain def of the class or of one above it -/
structure Meth (K : PySem.W.Frag) (C : Addr) (m : Str) (f : Addr) : Prop where
  at_ : PySem.W.findIn K (.ref C) m = some (some (.ref f))
  fn : PySem.W.isFn K (.ref f) = true
  kp : PySem.W.keepIn K (.ref f) = true

section
variable {X : Cx} {pins : List (Addr × Obj)} {σ : St} {H : Hp} {s : Shared} {a C dx : Addr} {fs : List (Str × V)} {f : Str} {v : V} {A : Around} {E : Value → Shared → Prop}

/-- a new instance, tracked, without attributes -/
theorem Inv.made (I : Inv X pins σ H s) : Inv X pins σ (upd (upd H s.heap.objs.size (.own (s.heap.objs.size + 1))) (s.heap.objs.size + 1) (.ins C s.heap.objs.size []))
    { s with heap := (s.heap.push PySem.W.emptyDict).push (PySem.W.instObj C s.heap.objs.size) } := by
  have e1 : (s.heap.push PySem.W.emptyDict).get? s.heap.objs.size = some PySem.W.emptyDict := Heap.get?_push_size s.heap rfl
  have e2 : ((s.heap.push PySem.W.emptyDict).push (PySem.W.instObj C s.heap.objs.size)).get? (s.heap.objs.size + 1) = some (PySem.W.instObj C s.heap.objs.size) := by
    have := Heap.get?_push_size (s.heap.push PySem.W.emptyDict) (o := PySem.W.instObj C s.heap.objs.size) rfl
    rwa [Heap.size_push] at this
  have e3 : (s.heap.push PySem.W.emptyDict).Ns s.heap.objs.size (fun _ => none) := ⟨PySem.W.emptyDict, #[], _, e1, rfl, (fun e he => absurd he (by simp)), fun _ => rfl⟩
  have I1 := I.laid (a := s.heap.objs.size) (o := .own (s.heap.objs.size + 1)) (h' := s.heap.push PySem.W.emptyDict) (t' := s.toks) (fun b u q => Heap.get?_push_of_some _ q) (Nat.le_refl _) ⟨_, e1⟩
  refine I1.laid (a := s.heap.objs.size + 1) (o := .ins C s.heap.objs.size []) (t' := s.toks) (fun b u q => Heap.get?_push_of_some _ q) (Nat.le_of_eq (Heap.size_push _ _)) ?_
  have ne : s.heap.objs.size ≠ s.heap.objs.size + 1 := Nat.ne_of_lt (Nat.lt_succ_self _)
  refine ⟨by rw [upd_ne ne, upd_same], Nat.zero_le _, ne, e2, fun _ => none, (Heap.Ns1.of_empty e3).at fun o q => Heap.get?_push_of_some _ q, fun _ => True.intro, fun y hy => absurd rfl hy⟩

end

/-! ### readings and rules -/
section
variable {X : Cx} {o e value : Expr} {f : Str} {pos pos' tpos : Pos} {ta tv : TE}
end

/-! ### isinstance -/
section
variable {X : Cx} {pins : List (Addr × Obj)} {σ : St} {H : Hp} {s : Shared} {A : Around} {E : Value → Shared → Prop} {Q : Value → Shared → Prop} {c : Value} {b : Bool}
/-- the type of a value, as the fragment's deciders take it; for an instance its class -/
inductive TyOf (K : PySem.W.Frag) (H : Hp) : V → Value → Prop where
  | non : TyOf K H .non (.type "NoneType")
  | bl (x : Bool) : TyOf K H (.bl x) (.type "bool")
  | int (i : Int) : TyOf K H (.int i) (.type "int")
  | str (x : Str) : TyOf K H (.str x) (.type "str")
  | flt (x : UInt64) : TyOf K H (.flt x) (.type "float")
  | lst {a : Addr} {xs : List V} (e : H a = some (.lst xs)) : TyOf K H (.ref a) (.type "list")
  | frz {a : Addr} {o : Obj} {xs : List V} (e : H a = some (.frz o (.lst xs))) : TyOf K H (.ref a) (.type "list")
  | tup {a : Addr} {xs : List V} (e : H a = some (.tup xs)) : TyOf K H (.ref a) (.type "tuple")
  | dK {a : Addr} {kvs : List (Key × V)} (e : H a = some (.dK kvs)) : TyOf K H (.ref a) (.type "dict")
  | dT {a : Addr} {kvs : List (List Key × V)} (e : H a = some (.dT kvs)) : TyOf K H (.ref a) (.type "dict")
  | ins {a C dx : Addr} {fs : List (Str × V)} (e : H a = some (.ins C dx fs)) (cl : Cls K C) (ha : PySem.W.findIn K (.ref C) "__class__" = some (some (.builtin "object.__class__")))
      (hn : PySem.W.specialIn K (.builtin "object.__class__") "__get__" = some (some (.builtin "getset_descriptor.__get__"))) (htk : PySem.W.takesIn K (.builtin "object.__class__") = some true)
      (hm : PySem.W.mroIn K C (.type "object") = some true) : TyOf K H (.ref a) (.ref C)
/-- isinstance(x, c) for one class c, a built-in or an own one: kitOne's answer -/
theorem isinst_ok {x : V} {u t : Value} (I : Inv X pins σ H s) (rx : RelV x u) (ty : TyOf X.K H x t) (e : PySem.W.kitOne X.K t c = some b) (h : ∀ tk, Q (.bool b) { s with toks := tk }) :
    wpAny (model X.prog X.w) A (call (.builtin "isinstance") [u, c]) Q E s := by
  cases ty with
  | non => cases (show u = Value.none from rx); exact PySem.W.kia_one PySem.W.kitx_none I.kIn True.intro e (fun z => nomatch z) h
  | bl y => cases (show u = Value.bool y from rx); exact PySem.W.kia_one PySem.W.kitx_bool I.kIn True.intro e (fun z => nomatch z) h
  | int i => obtain ⟨t, q⟩ := (show ∃ t, u = Value.int i t from rx); cases q; exact PySem.W.kia_one PySem.W.kitx_int I.kIn True.intro e (fun z => nomatch z) h
  | str y => obtain ⟨t, q⟩ := (show ∃ t, u = Value.str y t from rx); cases q; exact PySem.W.kia_one PySem.W.kitx_str I.kIn True.intro e (fun z => nomatch z) h
  | flt y => obtain ⟨t, q⟩ := (show ∃ t, u = Value.float y t from rx); cases q; exact PySem.W.kia_one PySem.W.kitx_float I.kIn True.intro e (fun z => nomatch z) h
  | @lst a xs ea =>
    cases (show u = Value.ref a from rx)
    obtain ⟨_, _, n, _, h1⟩ := (show ObjOk X.prog X.w H s.heap a (.lst xs) from I.hok a _ ea)
    exact PySem.W.kia_one PySem.W.kitx_list I.kIn ⟨_, h1, rfl⟩ e (fun z => nomatch z) h
  | @frz a ob xs ea =>
    cases (show u = Value.ref a from rx)
    obtain ⟨_, _, _, n, _, h1⟩ := (show ObjOk X.prog X.w H s.heap a (.frz ob (.lst xs)) from I.hok a _ ea)
    exact PySem.W.kia_one PySem.W.kitx_list I.kIn ⟨_, h1, rfl⟩ e (fun z => nomatch z) h
  | @tup a xs ea =>
    cases (show u = Value.ref a from rx)
    obtain ⟨_, _, _, p⟩ := (show ObjOk X.prog X.w H s.heap a (.tup xs) from I.hok a _ ea)
    obtain ⟨o, h1, h2, _⟩ := p
    exact PySem.W.kia_one PySem.W.kitx_tuple I.kIn ⟨o, h1, h2⟩ e (fun z => nomatch z) h
  | @dK a kvs ea =>
    cases (show u = Value.ref a from rx)
    obtain ⟨_, _, vs, _, p⟩ := (show ObjOk X.prog X.w H s.heap a (.dK kvs) from I.hok a _ ea)
    obtain ⟨o, es, ep, h1, h2, _⟩ := p
    exact PySem.W.kia_one PySem.W.kitx_dict I.kIn ⟨o, h1, h2.1⟩ e (fun z => nomatch z) h
  | @dT a kvs ea =>
    cases (show u = Value.ref a from rx)
    obtain ⟨_, _, xs, _, o, es, ep, h1, h2, _⟩ := (show ObjOk X.prog X.w H s.heap a (.dT kvs) from I.hok a _ ea)
    exact PySem.W.kia_one PySem.W.kitx_dict I.kIn ⟨o, h1, h2.1⟩ e (fun z => nomatch z) h
  | @ins a C dx fs ea cl ha hn htk hm =>
    cases (show u = Value.ref a from rx)
    obtain ⟨mA, O, _⟩ := ins_get I.hok ea
    obtain ⟨od, J, _⟩ := O.look
    exact PySem.W.kia_one (PySem.W.kitx_own (cl.get _) cl.hd ha hn htk hm) I.kIn J e (fun z => nomatch z) h
end
end L2

namespace L2
open PySem PySem.Spec PyProof.Rows

/-! ### room -/
structure Room (k : Nat) (A : Around) : Prop where
  hd : A.handled = none
  dp : A.depth + 3 * k + 5 < recursionLimit
  un : A.units + 16 * k + 200 < cLine
theorem Room.mono {j k : Nat} {A : Around} (r : Room k A) (h : j ≤ k) : Room j A := ⟨r.hd, by have := r.dp; omega, by have := r.un; omega⟩
theorem Room.deeper {k : Nat} {A : Around} (r : Room (k + 1) A) (env : Env) : Room k (A.deeper env) :=
  ⟨r.hd, by have := r.dp; show A.depth + 1 + 3 * k + 5 < _; omega, by have := r.un; show A.units + 3 + 16 * k + 200 < _; omega⟩
theorem Room.in1 {k : Nat} {A : Around} (r : Room (k + 1) A) : Room k A.in1 :=
  ⟨r.hd, by have := r.dp; show A.depth + 3 * k + 5 < _; omega, by have := r.un; show A.units + 1 + 16 * k + 200 < _; omega⟩
theorem make_depth {A : Around} {C : Addr} {us : List Value} {kw : List (Str × Value)} : (A.under (.builtin "type.__call__" ⟨.ref C :: us, kw⟩)).depth = A.depth + 1 := by
  first | rfl | simp [Around.under, Code.weight, Code.isCreation, Code.isGuard, Code.isCaller, Code.frames, Code.isFrame, guardIds]
theorem make_units {A : Around} {C : Addr} {us : List Value} {kw : List (Str × Value)} : (A.under (.builtin "type.__call__" ⟨.ref C :: us, kw⟩)).units = A.units + 1 := by
  first | rfl | simp [Around.under, Code.cUnits, Code.frames, Code.isFrame]
theorem Room.make {k : Nat} {A : Around} (r : Room (k + 1) A) (C : Addr) (us : List Value) (kw : List (Str × Value)) : Room k (A.under (.builtin "type.__call__" ⟨.ref C :: us, kw⟩)) :=
  ⟨r.hd, by have := r.dp; rw [make_depth]; omega, by have := r.un; rw [make_units]; omega⟩
theorem Room.depth {k : Nat} {A : Around} (r : Room k A) : A.depth < recursionLimit := by have := r.dp; omega
theorem Room.units {k : Nat} {A : Around} (r : Room k A) : A.units + 64 < cLine := by have := r.un; omega
theorem Room.units0 {k : Nat} {A : Around} (r : Room k A) : A.units < cLine := by have := r.un; omega

/-! ### argument lists and displays -/
def tNil : TA := fun _ H Q => Q [] H
def tCons (ta : TE) (tr : TA) : TA := fun σ H Q => ta σ H fun x H1 => tr σ H1 fun xs H2 => Q (x :: xs) H2
section
variable {X : Cx} {e : Expr} {es : List Expr} {te : TE} {t : TA} {pos : Pos}
theorem pa_nil : PA X [] tNil := fun _ _ _ _ H Q I h => Calls.spliced_nil ⟨[], H, I, .nil, h⟩
theorem pa_cons (ha : PE X e te) (hr : PA X es t) (hs : starEach (e :: es) X.env = (false, eval e X.env) :: starEach es X.env := by rfl) : PA X (e :: es) (tCons te t) := by
  intro pos pins s σ H Q I h
  rw [hs]
  show wpAny _ _ (spliced ((false, eval e X.env) :: backTo pos (starEach es X.env))) _ _ s
  refine Calls.spliced_cons (thn (ha pins s σ H _ I h) fun u s1 ⟨x, H1, I1, r1, q1⟩ => ?_)
  exact thn (hr pos pins s1 σ H1 _ I1 q1) fun us s2 ⟨xs, H2, I2, r2, q2⟩ => ⟨x :: xs, H2, I2, .cons r1 r2, q2⟩

/-- a tuple, a list of written items -/
def tTup (t : TA) : TE := fun σ H Q => t σ H fun xs H1 => xs.length ≤ sizeLine ∧ ∀ p, H1 p = none → Q (.ref p) (upd H1 p (.tup xs))
def tLst (t : TA) : TE := fun σ H Q => t σ H fun xs H1 => xs.length ≤ sizeLine ∧ ∀ p, H1 p = none → Q (.ref p) (upd H1 p (.lst xs))
theorem pe_tup {x1} (h : PA X es t) : PE X (.Tuple es x1 pos) (tTup t) := by
  intro pins s σ H Q I hq
  refine wpAny_Tuple_spliced (thn (h pos pins s σ H _ I hq) fun us s1 ⟨xs, H1, I1, r, z, q⟩ => ⟨by rw [← r.length]; exact z, ?_⟩)
  have hf : H1 s1.heap.objs.size = none := I1.hok.fresh (Nat.le_refl _)
  refine ⟨.ref s1.heap.objs.size, upd H1 s1.heap.objs.size (.tup xs), I1.laid (t' := s1.toks) (fun b u e => Heap.get?_push_of_some _ e) (Nat.le_refl _) ?_, rfl, q _ hf⟩
  exact ⟨z, us, r, ⟨_, Heap.get?_push_size _ rfl, rfl, _, rfl⟩⟩
theorem pe_lst (h : PA X es t) : PE X (.List es pos) (tLst t) := by
  intro pins s σ H Q I hq
  refine wpAny_List_spliced (thn (h pos pins s σ H _ I hq) fun us s1 ⟨xs, H1, I1, r, z, q⟩ => ⟨by rw [← r.length]; exact z, ?_⟩)
  have hf : H1 s1.heap.objs.size = none := I1.hok.fresh (Nat.le_refl _)
  refine ⟨.ref s1.heap.objs.size, upd H1 s1.heap.objs.size (.lst xs), I1.laid (t' := s1.toks) (fun b u e => Heap.get?_push_of_some _ e) (Nat.le_refl _) ?_, rfl, q _ hf⟩
  exact ⟨z, us, 0, r, Heap.get?_push_size _ rfl⟩
end

/-! ### what a def promises -/
/-- a def's promise: the bound arguments in the parameters' order, the heap, the wanted end, the wanted exception -/
abbrev Sp := List V → Hp → VK → XK → Prop
/-- how an exception lies behind a call (file 08 gives it): the callers' frames, abstract heap and state ahead of the call, the wish, the exception, the state -/
abbrev CXT := List Env → Hp → Shared → XK → Value → Shared → Prop

/-- the state at a call -/
structure Env0 (P : Program) (w : World) (K : PySem.W.Frag) (mg : Str → Option Value) (base : Heap) (A : Around) (outer : List Env) (s : Shared) (H : Hp) : Prop where
  frames : A.frames = some outer
  mod : Mod K mg base
  bs : ∀ b o, base.get? b = some o → s.heap.get? b = some o ∧ H b = none
  bsz : base.objs.size ≤ s.heap.objs.size
  funs : s.heap.FunFrames base outer
  frf : ∀ b ∈ frs outer, H b = none
  hok : HOk P w H s.heap
  bare : AllBare s.gens
/-- a call's end -/
def CE (outer : List Env) (P : Program) (w : World) (H : Hp) (s : Shared) (Q : VK) (u : Value) (s' : Shared) : Prop :=
  ∃ v H', s'.os = s.os ∧ AllBare s'.gens ∧ Un (frs outer) [] H H' s.heap s'.heap ∧ HOk P w H' s'.heap ∧ RelV v u ∧ Q v H'
def CR (CX : CXT) (outer : List Env) (P : Program) (w : World) (H : Hp) (s : Shared) (Q : VK) (E : XK) (r : Result) (s' : Shared) : Prop :=
  match r with
  | .ok (.ret u) => CE outer P w H s Q u s'
  | .ok _ => False
  | .error e => CX outer H s E e s'
structure FnOk (P : Program) (w : World) (K : PySem.W.Frag) (mg : Str → Option Value) (base : Heap) (CX : CXT) (k : Nat) (f : Addr) (fd : FuncData) (ps : List Str) (sp : Sp) : Prop where
  len : ∀ vs H Q E, sp vs H Q E → vs.length = ps.length
  run : ∀ (A : Around) (outer : List Env) (s : Shared) (H : Hp) (args : Args) (us : List Value) (vs : List V) (Q : VK) (E : XK), Room k A → Env0 P w K mg base A outer s H → BindsTo s fd args (ps.zip us) → Vals vs us → sp vs H Q E →
    codeAny (model P w) A (.call (.ref f) args) (CR CX outer P w H s Q E) s
theorem FnOk.mono {P : Program} {w : World} {K : PySem.W.Frag} {mg : Str → Option Value} {base : Heap} {CX : CXT} {j k : Nat} {f : Addr} {fd : FuncData} {ps : List Str} {sp : Sp} (F : FnOk P w K mg base CX j f fd ps sp) (h : j ≤ k) :
    FnOk P w K mg base CX k f fd ps sp := ⟨F.len, fun A outer s H args us vs Q E hr => F.run A outer s H args us vs Q E (hr.mono h)⟩
/-- a weaker promise -/
theorem FnOk.imp {P : Program} {w : World} {K : PySem.W.Frag} {mg : Str → Option Value} {base : Heap} {CX : CXT} {k : Nat} {f : Addr} {fd : FuncData} {ps : List Str} {sp sp' : Sp} (F : FnOk P w K mg base CX k f fd ps sp)
    (h : ∀ vs H Q E, sp' vs H Q E → sp vs H Q E) : FnOk P w K mg base CX k f fd ps sp' :=
  ⟨fun vs H Q E q => F.len vs H Q E (h _ _ _ _ q), fun A outer s H args us vs Q E hr he hb hv hs => F.run A outer s H args us vs Q E hr he hb hv (h _ _ _ _ hs)⟩

theorem Env0.make {P : Program} {w : World} {K : PySem.W.Frag} {mg : Str → Option Value} {base : Heap} {A : Around} {outer : List Env} {s : Shared} {H : Hp} (e : Env0 P w K mg base A outer s H) (C : Addr) (us : List Value) (kw : List (Str × Value)) :
    Env0 P w K mg base (A.under (.builtin "type.__call__" ⟨.ref C :: us, kw⟩)) outer s H := ⟨by first | exact e.frames | (simpa [Around.under, Code.envs, Code.isFrame, pushEnvs] using e.frames), e.mod, e.bs, e.bsz, e.funs, e.frf, e.hok, e.bare⟩
theorem Env0.in1 {P : Program} {w : World} {K : PySem.W.Frag} {mg : Str → Option Value} {base : Heap} {A : Around} {outer : List Env} {s : Shared} {H : Hp} (e : Env0 P w K mg base A outer s H) :
    Env0 P w K mg base A.in1 outer s H := ⟨e.frames, e.mod, e.bs, e.bsz, e.funs, e.frf, e.hok, e.bare⟩

section
variable {X : Cx} {pins : List (Addr × Obj)} {σ : St} {H : Hp} {s s' : Shared}
/-- from a body: what a callee wants -/
theorem Inv.env0 (I : Inv X pins σ H s) : Env0 X.prog X.w X.K X.mg X.base X.A X.stack s H :=
  ⟨I.ok.frames, I.ok.mod, I.bs, Nat.le_trans I.ok.bsz I.sz, I.stack, I.stkFree, I.hok, I.bare⟩
/-- behind a call -/
theorem Inv.after {Q : VK} {u : Value} (I : Inv X pins σ H s) (h : CE X.stack X.prog X.w H s Q u s') : EP X pins σ Q u s' := by
  obtain ⟨v, H', os, bare, un, hok, r, q⟩ := h
  obtain ⟨hh, g, d, t, os'⟩ := s'
  obtain rfl : os' = s.os := os
  exact ⟨v, H', I.call (h' := hh) (g' := g) (d' := d) (t' := t) (ch := []) un hok bare (fun b z => absurd z (by simp)), r, q⟩
end

/-! ### calls -/
/-- f(..): the written arguments, then the defaults dvs; E: what is wanted of an exception -/
def tCall (sp : Sp) (dvs : List V) (E : XK) (t : TA) : TE := fun σ H Q => t σ H fun vs H1 => sp (vs ++ dvs) H1 Q E
/-- how the parameters are bound: us the positional arguments, kw the keywords' values by name, ds the defaults that fill up -/
def Binds (K : PySem.W.Frag) (fd : FuncData) (ps : List Str) (ds : List Value) : Prop :=
  ∀ (s : Shared) (us : List Value), K.In s.heap → (us ++ ds).length = ps.length → BindsTo s fd ⟨us, []⟩ (ps.zip (us ++ ds))
/-- every parameter is given -/
theorem Binds.all {K : PySem.W.Frag} {fd : FuncData} {ps : List Str} (h : ∀ us : List Value, us.length = ps.length → bindArgs fd ⟨us, []⟩ = pure (ps.zip us)) : Binds K fd ps [] := fun s us _ hl => by
  rw [List.append_nil] at hl ⊢
  exact .of_eq (h us hl)

/-- an exception of a callee reaches what this body wants of exceptions -/
def Passes (CX : CXT) (X : Cx) (E : XK) : Prop := ∀ (pins : List (Addr × Obj)) (σ : St) (H : Hp) (s : Shared) (e : Value) (s' : Shared), Inv X pins σ H s → CX X.stack H s E e s' → X.xe e s'

section
variable {X : Cx} {CX : CXT} {k : Nat} {f C : Addr} {fd : FuncData} {ps : List Str} {sp : Sp} {dvs : List V} {ds : List Value} {E : XK} {x m : Str} {p pos apos : Pos} {e o : Expr} {es : List Expr} {ta : TE} {t : TA}

/-- the callee runs -/
theorem run_fn {pins : List (Addr × Obj)} {σ : St} {H : Hp} {s : Shared} {Q : VK} {us : List Value} {vs : List V} (F : FnOk X.prog X.w X.K X.mg X.base CX k f fd ps sp) (hr : Room k X.A) (hb : Binds X.K fd ps ds) (hd : Vals dvs ds) (hx : Passes CX X E)
    (I : Inv X pins σ H s) (r : Vals vs us) (h : sp (vs ++ dvs) H Q E) : wpAny (model X.prog X.w) X.A (call (.ref f) us) (EP X pins σ Q) X.xe s := by
  have r2 : Vals (vs ++ dvs) (us ++ ds) := r.append hd
  have hl : (us ++ ds).length = ps.length := by rw [← r2.length]; exact F.len _ _ _ _ h
  refine wpAny_call (codeAny_mono (F.run X.A X.stack s H ⟨us, []⟩ (us ++ ds) (vs ++ dvs) Q E hr I.env0 (hb s us I.kIn hl) r2 h) fun r s' hq => ?_)
  cases r with
  | error e => exact hx pins σ H s e s' I hq
  | ok fl =>
    cases fl with
    | ret u => exact I.after hq
    | next => exact False.elim hq
    | brk => exact False.elim hq
    | cont => exact False.elim hq

theorem pe_call (F : FnOk X.prog X.w X.K X.mg X.base CX k f fd ps sp) (hr : Room k X.A) (hg : Gl X x) (hm : X.mg x = some (.ref f)) (hk : PySem.W.keepIn X.K (.ref f) = true) (hb : Binds X.K fd ps ds) (hd : Vals dvs ds) (hx : Passes CX X E)
    (ha : PA X (e :: es) t) (hdb : (x == ("__debug__" : Str)) = false := by decide) (he : starEach (e :: es) X.env = (false, eval e X.env) :: starEach es X.env := by rfl) (hpl : (backTo pos (starEach es X.env)).any (·.1) = false := by rfl) :
    PE X (.Call (.Name x p) (e :: es) [] pos) (tCall sp dvs E t) := by
  intro pins s σ H Q I h
  refine wpAny_Call_Name_kw (ld_glob I hg hm ?_ hdb)
  refine PySem.W.callWith_K (h₀ := X.base) I.ok.mod.kin hk (thn (ha pos pins s σ H _ I h) fun us s1 ⟨vs, H1, I1, r, q⟩ => ⟨I1.kIn, ?_⟩) he hpl
  exact run_fn F hr hb hd hx I1 r q
/-- what a class must have to be made -/
structure Mk (K : PySem.W.Frag) (C f : Addr) : Prop where
  makes : PySem.W.makesIn K C = true
  init : PySem.W.findIn K (.ref C) "__init__" = some (some (.ref f))
  fn : PySem.W.isFn K (.ref f) = true
  kp : PySem.W.keepIn K (.ref C) = true

end

/-! ### keywords -/
section
variable {X : Cx} {CX : CXT} {k : Nat} {f C : Addr} {fd : FuncData} {ps ks : List Str} {sp : Sp} {E : XK} {x m : Str} {p pos apos kpos : Pos} {e o : Expr} {es : List Expr} {kws : List Keyword} {te ta : TE} {t tk : TA} {nm : Option Str}
/-- how a call with keywords binds: g puts the positional values us and the keywords' values ws (names ks) in the parameters' order, defaults among them -/
structure KBinds (K : PySem.W.Frag) (fd : FuncData) (ps ks : List Str) (g : List Value → List Value → List Value) (gV : List V → List V → List V) : Prop where
  to : ∀ (s : Shared) (us ws : List Value), K.In s.heap → (g us ws).length = ps.length → BindsTo s fd ⟨us, ks.zip ws⟩ (ps.zip (g us ws))
  rel : ∀ {vs : List V} {us : List Value} {zs : List V} {ws : List Value}, Vals vs us → Vals zs ws → Vals (gV vs zs) (g us ws)
variable {g : List Value → List Value → List Value} {gV : List V → List V → List V}
end

/-! ### a def's body keeps its promise -/
/-- names: the parameters first -/
structure FnScope (N P : List Str) (sc : Scope) : Prop where
  kind : sc.kind = .function
  co : sc.isCoroutine = false
  gen : sc.isGenerator = false
  nd : N.Nodup
  pre : N.take P.length = P
  par : ∀ x ∈ P, sc.names.lookup x = some .local ∨ sc.names.lookup x = some .cell
  nofree : ∀ y ∈ sc.names, y.2 ≠ .free

theorem bindL_out {kindOf : Str → Option NameKind} {x : Str} : ∀ {binds : List (Str × Value)} {m : Str → Option Value}, (∀ v, (x, v) ∉ binds) → bindL kindOf binds m x = m x
  | [], _, _ => rfl
  | (n, v) :: r, m, h => by
    unfold bindL
    rw [bindL_out fun w hw => h w (List.mem_cons_of_mem _ hw)]
    split
    · have : x ≠ n := by rintro rfl; exact h v List.mem_cons_self
      simp [this]
    · rfl
theorem bindC_out {kindOf : Str → Option NameKind} {x : Str} : ∀ {binds : List (Str × Value)} {m : Str → Option Value}, (∀ v, (x, v) ∉ binds) → bindC kindOf binds m x = m x
  | [], _, _ => rfl
  | (n, v) :: r, m, h => by
    unfold bindC
    rw [bindC_out fun w hw => h w (List.mem_cons_of_mem _ hw)]
    split
    · rfl
    · have : x ≠ n := by rintro rfl; exact h v List.mem_cons_self
      simp [this]
theorem bindL_get {kindOf : Str → Option NameKind} {x : Str} {v : Value} : ∀ {P : List Str} {vs : List Value} {i : Nat} {m : Str → Option Value}, P.Nodup → P[i]? = some x → vs[i]? = some v → kindOf x = some .local →
    bindL kindOf (P.zip vs) m x = some v
  | [], _, _, _, _, h, _, _ => by simp at h
  | _ :: _, [], _, _, _, _, h, _ => by simp at h
  | p :: P, w :: vs, 0, m, nd, h1, h2, hk => by
    simp at h1 h2; subst h1; subst h2
    show bindL kindOf ((p, w) :: P.zip vs) m p = _
    unfold bindL
    rw [bindL_out fun v hv => (List.nodup_cons.mp nd).1 (List.of_mem_zip hv).1, if_pos hk]
    simp
  | p :: P, w :: vs, i + 1, m, nd, h1, h2, hk => by
    show bindL kindOf ((p, w) :: P.zip vs) m x = _
    unfold bindL
    exact bindL_get (i := i) (List.nodup_cons.mp nd).2 (by simpa using h1) (by simpa using h2) hk
theorem bindC_get {kindOf : Str → Option NameKind} {x : Str} {v : Value} : ∀ {P : List Str} {vs : List Value} {i : Nat} {m : Str → Option Value}, P.Nodup → P[i]? = some x → vs[i]? = some v → kindOf x ≠ some .local →
    bindC kindOf (P.zip vs) m x = some v
  | [], _, _, _, _, h, _, _ => by simp at h
  | _ :: _, [], _, _, _, _, h, _ => by simp at h
  | p :: P, w :: vs, 0, m, nd, h1, h2, hk => by
    simp at h1 h2; subst h1; subst h2
    show bindC kindOf ((p, w) :: P.zip vs) m p = _
    unfold bindC
    rw [bindC_out fun v hv => (List.nodup_cons.mp nd).1 (List.of_mem_zip hv).1, if_neg hk]
    simp
  | p :: P, w :: vs, i + 1, m, nd, h1, h2, hk => by
    show bindC kindOf ((p, w) :: P.zip vs) m x = _
    unfold bindC
    exact bindC_get (i := i) (List.nodup_cons.mp nd).2 (by simpa using h1) (by simpa using h2) hk

/-- the names' values at the entry -/
def start (N : List Str) (vs : List V) : St := vs.map some ++ List.replicate (N.length - vs.length) none

/-- the context of a def's body, at its entry; an exception leaves the frame, then lies as CX says -/
def cxOf (CX : CXT) (P : Program) (w : World) (K : PySem.W.Frag) (mg : Str → Option Value) (base : Heap) (N : List Str) (qual : Str) (scope : Scope) (f : Addr) (cd : Value) (A : Around) (outer : List Env) (s : Shared) (H : Hp) (E : XK) : Cx where
  prog := P
  w := w
  K := K
  mg := mg
  base := base
  A := A.deeper (envOfC qual scope s.heap.objs.size f cd)
  N := N
  s₀ := s
  H₀ := H
  env := envOfC qual scope s.heap.objs.size f cd
  outer := outer
  stack := envOfC qual scope s.heap.objs.size f cd :: outer
  ex := []
  calm := true
  fn := fun _ => true
  pn := []
  xe := fun e s' => wpAny (model P w) (A.deeper (envOfC qual scope s.heap.objs.size f cd)) (leaving (envOfC qual scope s.heap.objs.size f cd) e) (fun _ s'' => CX outer H s E e s'') (fun e' s'' => CX outer H s E e' s'') s'

theorem cell_has {sc : Scope} {n : Nat} {x : Str} (h : sc.names.lookup x = some .cell) : ∃ c, (cellsFrom n sc.names []).lookup x = some c := by
  have q := PySem.W.cellsFrom_some sc.names n [] (.inl h)
  exact Option.isSome_iff_exists.mp q

theorem inv_start {CX : CXT} {P : Program} {w : World} {K : PySem.W.Frag} {mg : Str → Option Value} {base : Heap} {N ps : List Str} {qual : Str} {scope : Scope} {f : Addr} {cd : Value} {A : Around} {outer : List Env} {s s1 : Shared} {H : Hp} {E : XK} {us : List Value} {vs : List V}
    (S : FnScope N ps scope) (hd : A.handled = none) (e0 : Env0 P w K mg base A outer s H) (hl : vs.length = ps.length) (r : Vals vs us)
    (x : InCallC s s.heap.objs.size (bindL (envOfC qual scope s.heap.objs.size f cd).kindOf (ps.zip us) fun _ => none) (cellsFrom (s.heap.objs.size + 1) scope.names []) (bindC (envOfC qual scope s.heap.objs.size f cd).kindOf (ps.zip us) fun _ => none) s1) :
    Inv (cxOf CX P w K mg base N qual scope f cd A outer s H E) [] (start N vs) H s1 := by
  have hpl : ps.length ≤ N.length := by have := congrArg List.length S.pre; rw [List.length_take] at this; omega
  obtain ⟨h1, tk, rfl, hk⟩ := x.done
  have noA : ∀ b : Addr, b ∉ (cxOf CX P w K mg base N qual scope f cd A outer s H E).ex := fun b z => absurd (show b ∈ ([] : List Addr) from z) (by simp)
  refine ⟨⟨e0.mod, S.kind, rfl, rfl, Nat.le_refl _, fun y z c h1 h2 => ?_, fun y hy => ?_, fun y c _ h => ?_, fun _ => hd, Around.frames_deeper e0.frames, .inr ⟨rfl, rfl⟩, fun b z => absurd z (noA b), e0.bs, e0.bsz, fun b _ _ => noA b, fun b z => absurd z (noA b), e0.funs, e0.frf⟩,
    rfl, e0.bare, Un.kept hk, ⟨_, x.toInCall.ns, fun i y v h1 h2 h3 => ?_⟩, fun y c h => ⟨_, x.cell y c h⟩, e0.hok.fresh (Nat.le_refl _), fun y c h => ?_, fun p hp => absurd (show p ∈ ([] : List (Addr × Obj)) from hp) (by simp), e0.hok.kept hk, ?_⟩
  · exact name_of_addr x.apart (PySem.mem_of_lookup h1) (PySem.mem_of_lookup h2)
  · have hy : scope.names.lookup y = some .cell ∨ scope.names.lookup y = some .free := hy
    rcases hy with hy | hy
    · exact cell_has hy
    · exact absurd rfl (S.nofree _ (PySem.mem_of_lookup hy))
  · exact Nat.le_of_lt (x.above y c (PySem.mem_of_lookup h))
  · have hi : i < vs.length := by
      unfold start at h2
      by_cases hi : i < vs.length
      · exact hi
      · rw [List.getElem?_append_right (by simpa using hi)] at h2
        rw [List.getElem?_replicate] at h2
        split at h2 <;> cases h2
    have ha : vs[i]? = some v := by
      unfold start at h2
      rw [List.getElem?_append_left (by simpa using hi), List.getElem?_map] at h2
      cases e : vs[i]? with
      | none => rw [e] at h2; cases h2
      | some a => rw [e] at h2; cases h2; rfl
    obtain ⟨u, hu, rv⟩ := r.get ha
    have hp : ps[i]? = some y := by
      rw [← S.pre, List.getElem?_take_of_lt (by omega)]; exact h1
    have ndP : ps.Nodup := by rw [← S.pre]; exact S.nd.sublist (List.take_sublist _ _)
    refine ⟨u, rv, ?_⟩
    rcases S.par y (List.mem_of_getElem? hp) with k | k
    · exact .inl ⟨k, bindL_get ndP hp hu k⟩
    · obtain ⟨c, e⟩ := cell_has (n := s.heap.objs.size + 1) k
      refine .inr ⟨.inl k, c, e, ?_⟩
      have q := x.cell y c e
      rw [bindC_get ndP hp hu (by show scope.names.lookup y ≠ _; rw [k]; decide)] at q
      exact q
  · exact e0.hok.fresh (Nat.le_of_lt (x.above y c (PySem.mem_of_lookup h)))
  · unfold start
    show _ = N.length
    rw [List.length_append, List.length_map, List.length_replicate]
    omega

/-- THE RULE: a def (or a method) of the text, by its body. The body's reading t is chosen for each entry; it is run at the parameters' values -/
theorem fn_of {CX : CXT} {P : Program} {w : World} {K : PySem.W.Frag} {mg : Str → Option Value} {base : Heap} {k : Nat} {f : Addr} {name qual : Str} {params : Arguments} {body : List Stmt} {scope : Scope} {dV kV doc pm cdv ct oc : Value} {an od : Option Addr}
    {osl : Array (Option Value)} {N ps : List Str} {sp : Sp} (lk : K.lookup f = some ⟨oc, od, .func (PySem.W.fnOf name qual params body scope dV kV doc pm an cdv ct), osl⟩) (hcd : PySem.W.codeIn K cdv qual = true) (S : FnScope N ps scope)
    (len : ∀ vs H Q E, sp vs H Q E → vs.length = ps.length)
    (hbody : ∀ (A : Around) (outer : List Env) (s : Shared) (H : Hp) (vs : List V) (Q : VK) (E : XK), Room k (A.deeper (envOfC qual scope s.heap.objs.size f cdv)) → sp vs H Q E →
      ∃ t, PSs (cxOf CX P w K mg base N qual scope f cdv A outer s H E) body t ∧ t { nx := fun _ H' => Q .non H', rt := Q } (start N vs) H) :
    FnOk P w K mg base CX (k + 1) f (PySem.W.fnOf name qual params body scope dV kV doc pm an cdv ct) ps sp := by
  refine ⟨len, fun A outer s H args us vs Q E hr e0 hb r hsp => ?_⟩
  have hl := len _ _ _ _ hsp
  have KX : K.In s.heap := e0.mod.kin.keeps fun b o e => (e0.bs b o e).1
  have lim : s.heap.NoLimit := e0.mod.nolimit.keeps fun b o e => (e0.bs b o e).1
  have hkind : ∀ y ∈ ps.zip us, scope.names.lookup y.1 = some .local ∨ (scope.names.lookup y.1 = some .cell ∧ ((cellsFrom (s.heap.objs.size + 1) scope.names []).lookup y.1).isSome = true) := fun ⟨n, v⟩ hy => by
    rcases S.par n (List.of_mem_zip hy).1 with q | q
    · exact .inl q
    · exact .inr ⟨q, PySem.W.cellsFrom_some _ _ _ (.inl q)⟩
  refine codeAny_call_function hr.depth (KX _ _ lk) rfl S.co S.gen rfl (PySem.W.codeRec_of KX hcd) (hb _ _ _ _ ?_)
  refine wpAny_newFunctionEnv_cells S.kind hkind fun env he s1 x => ?_
  subst he
  refine ⟨lim.keeps x.toInCall.keep, codeAny_func ?_⟩
  obtain ⟨t, ht, hq⟩ := hbody A outer s H vs Q E (hr.deeper _) hsp
  have I : Inv (cxOf CX P w K mg base N qual scope f cdv A outer s H E) [] (start N vs) H s1 := inv_start S hr.hd e0 hl r x
  refine wpAny_mono (ht [] s1 (start N vs) H _ I hq) (fun fl s' hs => ?_) fun e s' hs => hs
  have fin : ∀ {σ' : St} {H' : Hp} {v : V} {u : Value}, Inv (cxOf CX P w K mg base N qual scope f cdv A outer s H E) [] σ' H' s' → RelV v u → Q v H' → CE outer P w H s Q u s' :=
    fun {σ' H' v u} J rv q => ⟨v, H', J.os, J.bare, J.base, J.hok, rv, q⟩
  cases fl with
  | ret u =>
    obtain ⟨v, σ', H', J, rv, q⟩ := hs
    exact fin J rv q
  | next =>
    obtain ⟨σ', H', J, q⟩ := hs
    exact fin (v := V.non) (u := Value.none) J rfl q
  | brk =>
    obtain ⟨_, _, _, q⟩ := hs
    exact False.elim q
  | cont =>
    obtain ⟨_, _, _, q⟩ := hs
    exact False.elim q
end L2

namespace L2
open PySem PySem.Spec PyProof.Rows
section
variable {X : Cx} {x : Str} {p pos : Pos} {e : Expr} {es : List Expr} {t : TA} {id T : String} {r : List V → Hp → VK → Prop}

def tCB (r : List V → Hp → VK → Prop) (t : TA) : TE := fun σ H Q => t σ H fun vs H1 => r vs H1 Q
/-- f(e, ..), f a built-in function -/
theorem pe_callB (hc : CallR X (.builtin id) r) (hg : Gl X x) (hm : X.mg x = none) (hv : bootBuiltins x = some (.builtin id)) (ha : PA X (e :: es) t) (hn : x ≠ "__name__" := by decide) (hdb : (x == ("__debug__" : Str)) = false := by decide)
    (he : starEach (e :: es) X.env = (false, eval e X.env) :: starEach es X.env := by rfl) (hpl : (backTo pos (starEach es X.env)).any (·.1) = false := by rfl) : PE X (.Call (.Name x p) (e :: es) [] pos) (tCB r t) := by
  intro pins s σ H Q I h
  refine wpAny_Call_Name_kw (ld_blt I hg hm hv ?_ hn hdb)
  exact PyProof.Rows.callWith_builtin1 (thn (ha pos pins s σ H _ I h) fun us s1 ⟨vs, H1, I1, r1, q1⟩ => hc pins s1 σ H1 vs us Q I1 r1 q1) he hpl
/-- T(e, ..), T a built-in type -/
theorem pe_callTy (hc : CallR X (.type T) r) (hg : Gl X x) (hm : X.mg x = none) (hv : bootBuiltins x = some (.type T)) (ha : PA X (e :: es) t) (hn : x ≠ "__name__" := by decide) (hdb : (x == ("__debug__" : Str)) = false := by decide)
    (he : starEach (e :: es) X.env = (false, eval e X.env) :: starEach es X.env := by rfl) (hpl : (backTo pos (starEach es X.env)).any (·.1) = false := by rfl) : PE X (.Call (.Name x p) (e :: es) [] pos) (tCB r t) := by
  intro pins s σ H Q I h
  refine wpAny_Call_Name_kw (ld_blt I hg hm hv ?_ hn hdb)
  exact PyProof.Rows.callWith_type1 (thn (ha pos pins s σ H _ I h) fun us s1 ⟨vs, H1, I1, r1, q1⟩ => hc pins s1 σ H1 vs us Q I1 r1 q1) he hpl
end
end L2

namespace HT
open PySem PyProof.Rows

/-- t < u of tuples of ints -/
def lexLt : List Int → List Int → Bool
  | [], [] => false
  | [], _ :: _ => true
  | _ :: _, [] => false
  | x :: xs, y :: ys => if x = y then lexLt xs ys else decide (x < y)
theorem lexLt_cons (x y : Int) (xs ys : List Int) : lexLt (x :: xs) (y :: ys) = if x = y then lexLt xs ys else decide (x < y) := rfl
theorem lexLt_nil_nil : lexLt [] [] = false := rfl
theorem lexLt_nil_cons (y : Int) (ys : List Int) : lexLt [] (y :: ys) = true := rfl
theorem lexLt_cons_nil (x : Int) (xs : List Int) : lexLt (x :: xs) [] = false := rfl

theorem eqAt_int (A : Around) (s : Shared) (a : Int) (t : Tok) (c : Int) (u : Tok) : ∃ e, SeqAt.EqAt A s (.int a t) (.int c u) e ∧ (e = true ↔ a = c) :=
  ⟨(a == c), SeqAt.EqAt.int_int a t c u, by simp⟩
theorem rcLt_int (A : Around) (s : Shared) (a : Int) (t : Tok) (c : Int) (u : Tok) (prog : Program) (w : World) (E : Value → Shared → Prop) (Q : Value → Shared → Prop) (h : Q (.bool (decide (a < c))) s) :
    wpAny (model prog w) A (richCompare .Lt (.int a t) (.int c u)) Q E s :=
  (PyProof.Rows.lt_int h : wpAny (model prog w) A (compareOp .Lt (.int a t) (.int c u)) Q E s)

section
open PySem.SeqAt
open PySem.AutoSeq1 (wpAny_loadPart')
open PySem.MeetsSeq PySem.MeetsSeq2 PySem.MeetsSeq3

theorem tuple_lt_ints (l b : Addr) (items items2 : Array Value) (n n2 : Nat) (dd dd2 : Option Addr) (sl sl2 : Array (Option Value)) (ns ms : List Int) (hi : IntsAre items.toList ns) (hj : IntsAre items2.toList ms) :
    Meets (Builtin.«tuple.__lt__» ⟨[.ref l, .ref b], []⟩)
      (fun _ R s => s.heap.get? l = some { cls := .type "tuple", dict := dd, data := .seq items n, slots := sl } ∧ s.heap.get? b = some { cls := .type "tuple", dict := dd2, data := .seq items2 n2, slots := sl2 } ∧
        R (.ok (.ret (.bool (lexLt ns ms)))) s) :=
  .of_wp fun prog w A R s h => by
    obtain ⟨hp, g, d, tk, os⟩ := s; obtain ⟨hl, hb, h⟩ := h
    have f2 := AutoSeq1.sub_tuple_tuple
    have z1 : items.size = ns.length := by rw [← hi.length]; simp
    have z2 : items2.size = ms.length := by rw [← hj.length]; simp
    wp_walk using wpAny_loadPart' hl, wpAny_loadPart' hb, wpAny_forIn_list _ (fun rest b s' => b.1 = none ∧ s' = ⟨hp, g, d, tk, os⟩ ∧ ∃ (vs ws : List Value) (ns' ms' : List Int), rest = vs.zip ws ∧
      IntsAre vs ns' ∧ IntsAre ws ms' ∧ ns'.length + items2.size = ms'.length + items.size ∧ R (.ok (.ret (.bool (lexLt ns' ms')))) ⟨hp, g, d, tk, os⟩) _
    case turn =>
      rintro ⟨y, x⟩ rest b s' ⟨hb', rfl, vs, ws, ns', ms', hz, hvi, hwi, hlen, hR⟩
      cases hvi with
      | nil => rw [List.zip_nil_left] at hz; cases hz
      | cons a t hvi' =>
        cases hwi with
        | nil => rw [List.zip_nil_right] at hz; cases hz
        | cons c u hwi' =>
          rw [List.zip_cons_cons] at hz
          injection hz with hyx hrest
          injection hyx with hy hx
          subst hy hx
          rw [lexLt_cons] at hR
          simp only [List.length_cons] at hlen
          obtain ⟨e, he, hiff⟩ := eqAt_int A.in1 ⟨hp, g, d, tk, os⟩ a t c u
          refine wpAny_bind (he prog w _ _ ?_)
          cases e with
          | true =>
            rw [if_pos (hiff.mp rfl)] at hR
            wp_walk
            exact ⟨rfl, rfl, _, _, _, _, hrest, hvi', hwi', by omega, hR⟩
          | false =>
            rw [if_neg (fun q => absurd (hiff.mpr q) Bool.false_ne_true)] at hR
            have hri := rcLt_int A.in1 ⟨hp, g, d, tk, os⟩ a t c u prog w
            wp_walk using hri
            exact ⟨_, rfl, by simpa using hR⟩
    case fin =>
      rintro ⟨b1, b2⟩ s' ⟨hb', rfl, vs, ws, ns', ms', hz, hvi, hwi, hlen, hR⟩
      simp only at hb'
      subst hb'
      have hv : lexLt ns' ms' = decide (items.size < items2.size) := by
        cases hvi with
        | nil =>
          cases hwi with
          | nil =>
            simp only [List.length_nil] at hlen
            rw [lexLt_nil_nil]
            exact (decide_eq_false (by omega)).symm
          | cons c u hw =>
            simp only [List.length_nil, List.length_cons] at hlen
            rw [lexLt_nil_cons]
            exact (decide_eq_true (by omega)).symm
        | cons a t hv =>
          cases hwi with
          | nil =>
            simp only [List.length_nil, List.length_cons] at hlen
            rw [lexLt_cons_nil]
            exact (decide_eq_false (by omega)).symm
          | cons c u hw =>
            rw [List.zip_cons_cons] at hz
            cases hz
      rw [hv] at hR
      wp_walk
      exact ⟨_, rfl, by simpa [Builtin.Tuple.tupleCompareSizes] using hR⟩
    case h =>
      exact ⟨rfl, rfl, items.toList, items2.toList, ns, ms, rfl, hi, hj, by omega, h⟩
end

section
variable {prog : Program} {w : World} {A : Around} {E : Value → Shared → Prop} {s : Shared}

theorem lt_tupInts {l b : Addr} {items items2 : Array Value} {ns ms : List Int} {Q : Value → Shared → Prop} (hl : IsTup s.heap l items) (hb : IsTup s.heap b items2) (hi : IntsAre items.toList ns) (hj : IntsAre items2.toList ms)
    (hu : A.units < cLine) (h : Q (.bool (lexLt ns ms)) s) : wpAny (model prog w) A (compareOp .Lt (.ref l) (.ref b)) Q E s := by
  obtain ⟨⟨cls, dd, data, sl⟩, ho, hc, n, hd⟩ := id hl
  obtain ⟨⟨cls2, dd2, data2, sl2⟩, ho2, hc2, n2, hd2⟩ := id hb
  simp only at hc hd hc2 hd2
  subst hc hd hc2 hd2
  exact richCompare_meets_room (op := .Lt) ⟨_, ho, rfl⟩ ⟨_, ho2, rfl⟩ PySem.F.slot_tuple_lt PySem.F.entry_tuple_lt (PySem.F.args_tuple_lt_2 _ _) (tuple_lt_ints l b items items2 n n2 dd dd2 sl sl2 ns ms hi hj)
    ⟨ho, ho2, show Value.bool (lexLt ns ms) ≠ Value.notImplemented ∧ Q (.bool (lexLt ns ms)) s from ⟨(fun x => nomatch x), h⟩⟩ hu

/-! ### t[a:b], not the whole -/
/-- a slice's bound as a place among n (d where it is left out) -/
def sIx (n d : Nat) : Option Int → Nat
  | none => d
  | some v => if v < 0 then (v + (n : Int)).toNat else min v.toNat n
theorem sIx_le (n d : Nat) (hd : d ≤ n) (o : Option Int) : sIx n d o ≤ n := by
  cases o with
  | none => exact hd
  | some v =>
    show (if v < 0 then (v + (n : Int)).toNat else min v.toNat n) ≤ n
    by_cases hv : v < 0
    · rw [if_pos hv]; omega
    · rw [if_neg hv]; exact Nat.min_le_right _ _
theorem clip_eq (v : Int) (n d : Nat) : (if v < 0 then max (v + (n : Int)) 0 else min v (n : Int)) = ((sIx n d (some v) : Nat) : Int) := by
  show (if v < 0 then max (v + (n : Int)) 0 else min v (n : Int)) = (((if v < 0 then (v + (n : Int)).toNat else min v.toNat n) : Nat) : Int)
  by_cases hv : v < 0
  · simp only [if_pos hv]; omega
  · simp only [if_neg hv]; omega
theorem adjust_gen (lo hi : Option Int) (n : Nat) : Builtin.Slice.sliceAdjust lo hi 1 (n : Int) = (((sIx n 0 lo : Nat) : Int), ((sIx n n hi : Nat) : Int)) := by
  have h1 : ¬ ((1 : Int) < 0) := by omega
  unfold Builtin.Slice.sliceAdjust
  simp only [h1, if_false]
  refine Prod.ext ?_ ?_
  · cases lo with
    | none => rfl
    | some v => exact clip_eq v n 0
  · cases hi with
    | none => rfl
    | some v => exact clip_eq v n n
theorem places_gen (i j : Nat) : Builtin.Slice.slicePlaces (i : Int) (j : Int) 1 = j - i := by
  unfold Builtin.Slice.slicePlaces
  have h1 : (1 : Int) > 0 := by omega
  simp only [h1, if_true, Int.ediv_one]
  split <;> omega
theorem slicePart_ {v : Value} {o : Option Int} {Q : Option Int → Shared → Prop} (p : IsPart v o) (h : Q o s) : wpAny (model prog w) A (Builtin.Slice.slicePartIndex v) Q E s := by
  cases p with
  | none => exact slicePart_none h
  | int i t => exact slicePart_int h
theorem sliceApplied_gen {sl : Addr} {vl vu : Value} {lo hi : Option Int} {n : Nat} {Q : Int × Int × Nat → Shared → Prop} (hs : s.heap.IsSliceOf sl vl vu .none) (pl : IsPart vl lo) (pu : IsPart vu hi)
    (h : Q (((sIx n 0 lo : Nat) : Int), 1, sIx n n hi - sIx n 0 lo) s) : wpAny (model prog w) A (Builtin.Slice.sliceApplied (.ref sl) (pure (n : Int))) Q E s := by
  obtain ⟨os, hos, hcs, hds⟩ := id hs
  unfold Builtin.Slice.sliceApplied Builtin.Slice.sliceFields
  refine wpAny_bind (wpAny_bind (wpAny_field hos hds (x := vl) rfl (wpAny_bind (wpAny_field hos hds (x := vu) rfl (wpAny_bind (wpAny_field hos hds (x := .none) rfl (wpAny_pure ?_)))))))
  refine wpAny_bind (slicePart_none ?_)
  show wpAny _ _ (if ((1 : Int) == 0) = true then _ else _) _ _ s
  rw [if_neg (by decide)]
  refine wpAny_bind (slicePart_ pl (wpAny_bind (slicePart_ pu (wpAny_bind (wpAny_pure ?_)))))
  show wpAny _ _ (match Builtin.Slice.sliceAdjust lo hi 1 (n : Int) with | (lo, hi) => pure (lo, (1 : Int), Builtin.Slice.slicePlaces lo hi 1)) _ _ s
  rw [adjust_gen lo hi n]
  show wpAny _ _ (pure (((sIx n 0 lo : Nat) : Int), (1 : Int), Builtin.Slice.slicePlaces ((sIx n 0 lo : Nat) : Int) ((sIx n n hi : Nat) : Int) 1)) _ _ s
  rw [places_gen]
  exact wpAny_pure h
theorem pick_gen (xs : Array Value) (i k : Nat) : ((List.range k).filterMap fun (m : Nat) => xs[((i : Int) + (m : Int) * 1).toNat]?).toArray = ((xs.toList.drop i).take k).toArray := by
  have e : (fun (m : Nat) => xs[((i : Int) + (m : Int) * 1).toNat]?) = fun m => xs[i + m]? := by
    funext m
    have : ((i : Int) + (m : Int) * 1).toNat = i + m := by omega
    rw [this]
  rw [e]
  have := pick_run xs i k
  rw [List.filterMap_map] at this
  have e2 : ((fun x => xs[x]?) ∘ fun x => i + x) = fun m => xs[i + m]? := rfl
  rw [e2] at this
  rw [this]

theorem getItem_tuple_cut {t sl : Addr} {items : Array Value} {vl vu : Value} {lo hi : Option Int} {Q : Value → Shared → Prop} (ht : IsTup s.heap t items) (hs : s.heap.IsSliceOf sl vl vu .none) (pl : IsPart vl lo) (pu : IsPart vu hi)
    (hw : ¬ (sIx items.size 0 lo = 0 ∧ sIx items.size items.size hi = items.size))
    (h : Q (.ref s.heap.objs.size) { s with heap := s.heap.push { cls := .type "tuple", data := .seq ((items.toList.drop (sIx items.size 0 lo)).take (sIx items.size items.size hi - sIx items.size 0 lo)).toArray } })
    (hsz : items.size ≤ sizeLine) : wpAny (model prog w) A (getItem (.ref t) (.ref sl)) Q E s := by
  have htake : sizeOk (.seq ((items.toList.drop (sIx items.size 0 lo)).take (sIx items.size items.size hi - sIx items.size 0 lo)).toArray) := by
    show ((items.toList.drop (sIx items.size 0 lo)).take (sIx items.size items.size hi - sIx items.size 0 lo)).toArray.size ≤ sizeLine
    rw [List.size_toArray, List.length_take, List.length_drop, Array.length_toList]
    omega
  have hj : sIx items.size items.size hi ≤ items.size := sIx_le _ _ (Nat.le_refl _) hi
  obtain ⟨os, hos, hcs, hds⟩ := id hs
  have hTs : s.TypeIs (.ref sl) "slice" := ⟨os, hos, hcs⟩
  unfold getItem
  try with_reducible refine wpAny_holding ?_
  first | refine wpAny_bind (wpAny_pure ?_) | skip
  refine wpAny_bind (wpAny_sequenceKey ht.typeIs (by decide) ?_)
  refine wpAny_bind (wpAny_callSpecial?_slot (name := Str.ofString "__getitem__") ht.typeIs PyProof.Rows.slot_tuple_getitem
    (wpAny_call_entry PyProof.Rows.slot_tuple_getitem ht.typeIs entry_tuple_getitem ?_ (args_tuple_getitem _ _)))
  show wpAny _ _ (Builtin.Tuple.tupleItemsOf (.ref t) >>= _) _ _ s
  refine wpAny_bind (tupleItemsOf_ ht ?_)
  refine wpAny_bind (wpAny_typeOf hTs ?_)
  rw [if_pos (by decide)]
  refine wpAny_bind (sliceApplied_gen hs pl pu ?_)
  have hno : ¬ ((((sIx items.size 0 lo : Nat) : Int) == 0 && (1 : Int) == 1 && (sIx items.size items.size hi - sIx items.size 0 lo) == items.size) = true) := by
    intro q
    rw [Bool.and_eq_true, Bool.and_eq_true] at q
    have q1 : ((sIx items.size 0 lo : Nat) : Int) = 0 := eq_of_beq q.1.1
    have q2 : sIx items.size items.size hi - sIx items.size 0 lo = items.size := eq_of_beq q.2
    exact hw ⟨by omega, by omega⟩
  show wpAny _ _ (if (((sIx items.size 0 lo : Nat) : Int) == 0 && (1 : Int) == 1 && (sIx items.size items.size hi - sIx items.size 0 lo) == items.size) = true then _ else _) _ _ s
  rw [if_neg hno, pick_gen]
  first
    | exact wpAny_bind (m := Builtin.Tuple.tupleExact _) (wpAny_newObj_type (wpAny_pure ⟨_, rfl, wpAny_pure h⟩) htake)
    | exact wpAny_bind (m := Builtin.Tuple.tupleExact _) (wpAny_newObj_type (wpAny_bind (wpAny_pure (wpAny_pure ⟨_, rfl, wpAny_pure h⟩))) htake)
    | exact wpAny_bind (wpAny_bind (m := Builtin.Tuple.tupleExact _) (wpAny_newObj_type (wpAny_pure (wpAny_pure ⟨_, rfl, wpAny_pure h⟩)) htake))
    | exact wpAny_bind (wpAny_bind (m := Builtin.Tuple.tupleExact _) (wpAny_newObj_type (wpAny_pure ⟨_, rfl, wpAny_pure h⟩) htake))
end
end HT

namespace L2
open PySem PySem.Spec PyProof.Rows

/-! ### the parts of a slice -/
abbrev TO := St → Hp → (Option Int → Hp → Prop) → Prop
/-- a slice's part (left out, or an int) -/
def PO (X : Cx) (e : Option Expr) (t : TO) : Prop :=
  ∀ (pins : List (Addr × Obj)) (s : Shared) (σ : St) (H : Hp) (Q : Option Int → Hp → Prop), Inv X pins σ H s → t σ H Q →
    wpAny (model X.prog X.w) X.A (evalPart e X.env) (fun u s' => ∃ o H', Inv X pins σ H' s' ∧ IsPart u o ∧ Q o H') X.xe s
def tNoPart : TO := fun _ H Q => Q none H
def tPart (t : TE) : TO := fun σ H Q => t σ H fun x H1 => ∃ i, x = .int i ∧ Q (some i) H1

theorem intsAre_of {ns : List Int} : ∀ {us : List Value}, Vals (ns.map V.int) us → IntsAre us ns := by
  induction ns with
  | nil => intro us r; rw [List.map_nil] at r; cases r; exact .nil
  | cons n ns ih =>
    intro us r
    rw [List.map_cons] at r
    cases r with
    | cons r1 r2 =>
      obtain ⟨t, e⟩ := r1
      subst e
      exact .cons n t (ih r2)

section
variable {X : Cx} {e : Expr} {te : TE} {lo hi : Option Expr} {tl th : TO} {pos p2 : Pos}

theorem po_none : PO X none tNoPart := by
  intro pins s σ H Q I h
  rw [evalPart_none]
  exact wpAny_pure ⟨none, H, I, .none, h⟩
theorem po_some (h : PE X e te) : PO X (some e) (tPart te) := by
  intro pins s σ H Q I hw
  rw [evalPart_some]
  refine thn (h pins s σ H _ I hw) fun u s1 ⟨x, H1, I1, r1, q1⟩ => ?_
  obtain ⟨i, rfl, q⟩ := q1
  obtain ⟨t, rfl⟩ := r1
  exact ⟨some i, H1, I1, .int i t, q⟩

/-- what a slice of a value is, by values: the slice object stands at sl -/
def SlR (X : Cx) (r : V → Option Int → Option Int → Hp → VK → Prop) : Prop :=
  ∀ (pins : List (Addr × Obj)) (s : Shared) (σ : St) (H : Hp) (x : V) (v vl vu : Value) (lo hi : Option Int) (sl : Addr) (Q : VK), Inv X pins σ H s → RelV x v → s.heap.IsSliceOf sl vl vu .none → IsPart vl lo → IsPart vu hi → r x lo hi H Q →
    ∃ T id, typeLookup (.type T) "__getitem__" = pure (some (.builtin id)) ∧ s.TypeIs v T ∧ wpAny (model X.prog X.w) X.A (getItem v (.ref sl)) (EP X pins σ Q) X.xe s
theorem SlR.or {r r' : V → Option Int → Option Int → Hp → VK → Prop} (h : SlR X r) (h' : SlR X r') : SlR X (fun x lo hi H Q => r x lo hi H Q ∨ r' x lo hi H Q) := by
  intro pins s σ H x v vl vu lo hi sl Q I rx hs pl pu q
  rcases q with q | q
  · exact h pins s σ H x v vl vu lo hi sl Q I rx hs pl pu q
  · exact h' pins s σ H x v vl vu lo hi sl Q I rx hs pl pu q
def tSl (r : V → Option Int → Option Int → Hp → VK → Prop) (te : TE) (tl th : TO) : TE := fun σ H Q => te σ H fun x H1 => tl σ H1 fun l H2 => th σ H2 fun u H3 => r x l u H3 Q
/-- a[lo:hi], any a -/
theorem pe_slice {r : V → Option Int → Option Int → Hp → VK → Prop} (hr : SlR X r) (he : PE X e te) (hl : PO X lo tl) (hu : PO X hi th) : PE X (.Subscript e (.Slice lo hi none p2) pos) (tSl r te tl th) := by
  intro pins s σ H Q I h
  refine Subscript_ (thn (he pins s σ H _ I h) fun v s1 ⟨x, H1, I1, r1, q1⟩ => ?_)
  refine wpAny_Slice (thn (hl pins s1 σ H1 _ I1 q1) fun vl s2 ⟨l, H2, I2, pl, q2⟩ => thn (hu pins s2 σ H2 _ I2 q2) fun vu s3 ⟨u, H3, I3, pu, q3⟩ => ?_)
  rw [evalPart_none]
  refine wpAny_pure ?_
  have I4 : Inv X pins σ H3 { s3 with heap := s3.heap.push { cls := .type "slice", data := .fields #[vl, vu, .none] } } := I3.kept (t' := s3.toks) fun b ob q => Heap.get?_push_of_some _ q
  obtain ⟨T, id, hT, ht, hg⟩ := hr pins { s3 with heap := s3.heap.push { cls := .type "slice", data := .fields #[vl, vu, .none] } } σ H3 x v vl vu l u s3.heap.objs.size Q I4 r1 (Heap.IsSliceOf.new ..) pl pu q3
  show wpAny (model X.prog X.w) X.A (subscriptTail e (.Slice lo hi none p2) v (.ref s3.heap.objs.size)) (EP X pins σ Q) X.xe { s3 with heap := s3.heap.push { cls := .type "slice", data := .fields #[vl, vu, .none] } }
  exact tail_any (ops := [.ref s3.heap.objs.size, v]) ht hT hg (by with_unfolding_all rfl)

/-- the items of xs[lo:hi] -/
def cutV (xs : List V) (lo hi : Option Int) : List V := (xs.drop (HT.sIx xs.length 0 lo)).take (HT.sIx xs.length xs.length hi - HT.sIx xs.length 0 lo)
theorem cutV_length (xs : List V) (lo hi : Option Int) : (cutV xs lo hi).length ≤ xs.length := by
  unfold cutV
  rw [List.length_take, List.length_drop]
  omega
/-- t[lo:hi], not the whole of it (the whole would be t itself) -/
def rSlT (K : PySem.W.Frag) : V → Option Int → Option Int → Hp → VK → Prop := fun x lo hi H Q => ∃ a xs, x = .ref a ∧ SqT K H a xs ∧
  ¬ (HT.sIx xs.length 0 lo = 0 ∧ HT.sIx xs.length xs.length hi = xs.length) ∧ ∀ p, H p = none → Q (.ref p) (upd H p (.tup (cutV xs lo hi)))
theorem sl_tup : SlR X (rSlT X.K) := by
  intro pins s σ H x v vl vu lo hi sl Q I rx hs pl pu h
  obtain ⟨a, xs, rfl, hx, hw, q⟩ := h
  cases rx
  obtain ⟨its, r, ht, hz⟩ := I.tuple hx
  have hlen : its.toArray.size = xs.length := by rw [List.size_toArray]; exact r.length.symm
  refine ⟨"tuple", _, PyProof.Rows.slot_tuple_getitem.lookup, ht.typeIs, ?_⟩
  refine HT.getItem_tuple_cut ht hs pl pu (by rw [hlen]; exact hw) ?_ (by rw [hlen]; exact hz)
  rw [hlen]
  refine ⟨.ref s.heap.objs.size, _, I.laid (t' := s.toks) (o := .tup (cutV xs lo hi)) (fun b ob q => Heap.get?_push_of_some _ q) (Nat.le_refl _) ?_, rfl, q _ (I.hok.fresh (Nat.le_refl _))⟩
  exact ⟨Nat.le_trans (cutV_length xs lo hi) hz, _, (r.drop (HT.sIx xs.length 0 lo)).take (HT.sIx xs.length xs.length hi - HT.sIx xs.length 0 lo), IsTup.new _ _⟩

/-! ### t < u, t + u -/
def rLtT (K : PySem.W.Frag) : R2 := fun x y H Q => ∃ a b ns ms, x = .ref a ∧ y = .ref b ∧ SqT K H a (ns.map V.int) ∧ SqT K H b (ms.map V.int) ∧ Q (.bl (HT.lexLt ns ms)) H
theorem op_ltT (hu : X.A.units < cLine) : OpR X (compareOp .Lt) (rLtT X.K) := by
  intro pins s σ H x y v u Q I rx ry h
  obtain ⟨a, b, ns, ms, rfl, rfl, ha, hb, q⟩ := h
  cases rx
  cases ry
  obtain ⟨its, r1, p1, _⟩ := I.tuple ha
  obtain ⟨its2, r2, p2, _⟩ := I.tuple hb
  have i1 : IntsAre its.toArray.toList ns := intsAre_of r1
  have i2 : IntsAre its2.toArray.toList ms := intsAre_of r2
  exact HT.lt_tupInts p1 p2 i1 i2 hu ⟨.bl (HT.lexLt ns ms), H, I, rfl, q⟩
end
end L2

namespace L2
open PySem PySem.Spec PyProof.Rows

/-! ### places -/
/-- the place that an index of any sign means -/
def ixN (n : Nat) (i : Int) : Option Nat := if 0 ≤ i then (if i < n then some i.toNat else none) else if -(n : Int) ≤ i then some (i + n).toNat else none
def atI {α : Type} (xs : List α) (i : Int) : Option α := (ixN xs.length i).bind fun j => xs[j]?
theorem ixN_seq {n : Nat} {i : Int} {j : Nat} (h : ixN n i = some j) : seqIndex? i n = some j ∧ j < n ∧ -(n : Int) ≤ i ∧ i < n := by
  unfold ixN at h
  by_cases h0 : 0 ≤ i
  · rw [if_pos h0] at h
    by_cases h1 : i < n
    · rw [if_pos h1] at h
      have e : i.toNat = j := Option.some.inj h
      exact ⟨by rw [seqIndex_of h0 h1, e], by omega, by omega, h1⟩
    · rw [if_neg h1] at h; cases h
  · rw [if_neg h0] at h
    by_cases h1 : -(n : Int) ≤ i
    · rw [if_pos h1] at h
      have e : (i + n).toNat = j := Option.some.inj h
      exact ⟨by rw [seqIndex_neg (by omega) h1, e], by omega, h1, by omega⟩
    · rw [if_neg h1] at h; cases h
theorem atI_get {α : Type} {xs : List α} {i : Int} {v : α} (h : atI xs i = some v) : ∃ j, seqIndex? i xs.length = some j ∧ xs[j]? = some v ∧ j < xs.length ∧ -(xs.length : Int) ≤ i ∧ i < xs.length := by
  unfold atI at h
  cases e : ixN xs.length i with
  | none => rw [e] at h; cases h
  | some j =>
    rw [e] at h
    obtain ⟨h1, h2, h3, h4⟩ := ixN_seq e
    exact ⟨j, h1, h, h2, h3, h4⟩
/-! ### what may be subscripted -/
/-- what stands as an index of a plain subscript -/
def PlainIx (b : Expr) : Prop := ∀ o i, subscripted b false o i = operate [o, i] (getItem o i)
/-- a subscript by values -/
def IxR (X : Cx) (r : R2) : Prop :=
  ∀ (value slice : Expr) (pins : List (Addr × Obj)) (s : Shared) (σ : St) (H : Hp) (x y : V) (v u : Value) (Q : VK), Inv X pins σ H s → RelV x v → RelV y u → r x y H Q →
    subscripted slice false v u = operate [v, u] (getItem v u) → wpAny (model X.prog X.w) X.A (subscriptTail value slice v u) (EP X pins σ Q) X.xe s
/-- a call of a builtin's method by values: the receiver, the arguments -/
def MtR (X : Cx) (id : String) (r : V → List V → Hp → VK → Prop) : Prop :=
  ∀ (pins : List (Addr × Obj)) (s : Shared) (σ : St) (H : Hp) (x : V) (xs : List V) (v : Value) (us : List Value) (Q : VK), Inv X pins σ H s → RelV x v → Vals xs us → r x xs H Q →
    wpAny (model X.prog X.w) X.A (call (.builtin id) (v :: us)) (EP X pins σ Q) X.xe s
section
variable {X : Cx} {a b : Expr} {ta tb : TE} {pos : Pos}
theorem IxR.or {r r' : R2} (h : IxR X r) (h' : IxR X r') : IxR X (fun x y H Q => r x y H Q ∨ r' x y H Q) := by
  intro value slice pins s σ H x y v u Q I rx ry q hs
  rcases q with q | q
  · exact h value slice pins s σ H x y v u Q I rx ry q hs
  · exact h' value slice pins s σ H x y v u Q I rx ry q hs
theorem MtR.or {id : String} {r r' : V → List V → Hp → VK → Prop} (h : MtR X id r) (h' : MtR X id r') : MtR X id (fun x xs H Q => r x xs H Q ∨ r' x xs H Q) := by
  intro pins s σ H x xs v us Q I rx rs q
  rcases q with q | q
  · exact h pins s σ H x xs v us Q I rx rs q
  · exact h' pins s σ H x xs v us Q I rx rs q
/-- a[b] -/
theorem pe_ix {r : R2} (hr : IxR X r) (ha : PE X a ta) (hb : PE X b tb) (hs : PlainIx b) : PE X (.Subscript a b pos) (tOp r ta tb) := by
  intro pins s σ H Q I h
  exact Subscript_ (binT ha hb I h fun v u s2 x y H2 I2 rx ry q => hr a b pins s2 σ H2 x y v u Q I2 rx ry q (hs _ _))

def rIxL (K : PySem.W.Frag) : R2 := fun x y H Q => ∃ p xs i v, x = .ref p ∧ y = .int i ∧ SqL K H p xs ∧ atI xs i = some v ∧ Q v H
def rIxT (K : PySem.W.Frag) : R2 := fun x y H Q => ∃ p xs i v, x = .ref p ∧ y = .int i ∧ SqT K H p xs ∧ atI xs i = some v ∧ Q v H
def rIxS : R2 := fun x y H Q => ∃ z i c, x = .str z ∧ y = .int i ∧ z.length ≤ sizeLine ∧ atI z.cps.toList i = some c ∧ Q (.str ⟨#[c]⟩) H
theorem ix_list : IxR X (rIxL X.K) := by
  intro value slice pins s σ H x y v u Q I rx ry h hs
  obtain ⟨p, xs, i, z, rfl, rfl, hq, he, q⟩ := h
  cases rx
  obtain ⟨t, rfl⟩ := ry
  obtain ⟨its, r, pl, hz⟩ := I.list hq
  obtain ⟨j, h1, h2, h3, h4, h5⟩ := atI_get he
  obtain ⟨w, ew, rw'⟩ := r.get h2
  have hl := r.length
  have hn := line63
  have fin : EP X pins σ Q w s := ⟨z, H, I, rw', q⟩
  by_cases h0 : 0 ≤ i
  · have hj : i.toNat = j := by
      rw [seqIndex_of h0 h5] at h1
      exact Option.some.inj h1
    exact item_listR pl.isList h0 (by omega) (by rw [hj]; simpa using ew) fin hs
  · have hj : (i + (its.toArray.size : Int)).toNat = j := by
      rw [seqIndex_neg (by omega) h4] at h1
      rw [List.size_toArray, ← hl]
      exact Option.some.inj h1
    exact subscriptTail_builtinR (x := w) pl.isList.typeIs slot_list_getitem.lookup
      (wpAny_getItem_list_neg (Q := fun r s' => r = w ∧ EP X pins σ Q r s') pl.isList (by omega) (by rw [List.size_toArray] <;> omega) (by omega) (by rw [hj]; simpa using ew) ⟨rfl, fin⟩) hs
theorem ix_tup : IxR X (rIxT X.K) := by
  intro value slice pins s σ H x y v u Q I rx ry h hs
  obtain ⟨p, xs, i, z, rfl, rfl, hq, he, q⟩ := h
  cases rx
  obtain ⟨t, rfl⟩ := ry
  obtain ⟨its, r, pl, hz⟩ := I.tuple hq
  obtain ⟨j, h1, h2, h3, h4, h5⟩ := atI_get he
  obtain ⟨w, ew, rw'⟩ := r.get h2
  have hl := r.length
  have hn := line63
  have fin : EP X pins σ Q w s := ⟨z, H, I, rw', q⟩
  exact subscriptTail_builtinR (x := w) pl.typeIs slot_tuple_getitem.lookup
    (getItem_tuple (j := j) (Q := fun r s' => r = w ∧ EP X pins σ Q r s') pl (by omega) (by omega) (by rw [List.size_toArray, ← hl]; exact h1) (by simpa using ew) ⟨rfl, fin⟩) hs
theorem ix_str : IxR X rIxS := by
  intro value slice pins s σ H x y v u Q I rx ry h hs
  obtain ⟨z, i, c, rfl, rfl, hz, he, q⟩ := h
  obtain ⟨t, rfl⟩ := rx
  obtain ⟨t', rfl⟩ := ry
  obtain ⟨j, h1, h2, h3, h4, h5⟩ := atI_get he
  have hl : z.cps.toList.length = z.length := by simp [Str.length]
  rw [hl] at h1 h4 h5
  have hn := line63
  exact tail_any (typeIs_str s z t) slot_str_getitem.lookup (getItem_str (c := c) (by
    have e1 : decide (i < -(2 ^ 63 : Int)) = false := decide_eq_false (by omega)
    have e2 : decide (i ≥ 2 ^ 63) = false := decide_eq_false (by omega)
    rw [e1, e2, Bool.or_false]) (by rw [h1]; simpa using h2) ⟨.str ⟨#[c]⟩, H, I.tok _, ⟨_, rfl⟩, q⟩) hs
/-! ### xs[i] = v, any sign -/
theorem Inv.lst {pins : List (Addr × Obj)} {σ : St} {H : Hp} {s : Shared} {p : Addr} {xs : List V} (I : Inv X pins σ H s) (h : H p = some (.lst xs)) :
    ∃ (its : List Value) (n : Nat), Vals xs its ∧ s.heap.get? p = some { cls := .type "list", data := .seq its.toArray n } ∧ xs.length ≤ sizeLine := by
  obtain ⟨z, its, n, r, e⟩ := I.hok p _ h
  exact ⟨its, n, r, e, z⟩
/-! ### slices -/
/-! ### in, not in: flat items -/
/-! ### len, list(x), tuple(x) of any list or tuple that is read -/
theorem call_len_seq : CallR X (.builtin "len") (fun xs H Q => ∃ p ys, xs = [.ref p] ∧ (SqL X.K H p ys ∨ SqT X.K H p ys) ∧ Q (.int ys.length) H) := by
  intro pins s σ H xs us Q I r h
  obtain ⟨p, ys, rfl, hq, q⟩ := h
  obtain ⟨u, rfl, rx⟩ := vals1 r
  cases rx
  have hn := line63
  rcases hq with hq | hq
  · obtain ⟨its, r', pl, hz⟩ := I.list hq
    have hlen := r'.length
    exact Calls.call_len_list pl.isList (by simp only [List.size_toArray] <;> omega) ⟨.int ys.length, H, I.tok _, ⟨s.toks + 1, by rw [List.size_toArray, hlen]⟩, q⟩
  · obtain ⟨its, r', pl, hz⟩ := I.tuple hq
    have hlen := r'.length
    exact len_tuple pl (by simp only [List.size_toArray] <;> omega) ⟨.int ys.length, H, I.tok _, ⟨s.toks + 1, by rw [List.size_toArray, hlen]⟩, q⟩
theorem call_len_str : CallR X (.builtin "len") (fun xs H Q => ∃ z, xs = [.str z] ∧ z.length ≤ sizeLine ∧ Q (.int z.length) H) := by
  intro pins s σ H xs us Q I r h
  obtain ⟨z, rfl, hz, q⟩ := h
  obtain ⟨u, rfl, t, rfl⟩ := vals1 r
  have hn := line63
  exact len_str (by omega) ⟨.int z.length, H, I.tok _, ⟨_, rfl⟩, q⟩
theorem CallR.or {f : Value} {r r' : List V → Hp → VK → Prop} (h : CallR X f r) (h' : CallR X f r') : CallR X f (fun xs H Q => r xs H Q ∨ r' xs H Q) := by
  intro pins s σ H xs us Q I rs q
  rcases q with q | q
  · exact h pins s σ H xs us Q I rs q
  · exact h' pins s σ H xs us Q I rs q
theorem call_list_of : CallR X (.type "list") (fun xs H Q => ∃ p ys, xs = [.ref p] ∧ (SqL X.K H p ys ∨ SqT X.K H p ys) ∧ ∀ l, H l = none → Q (.ref l) (upd H l (.lst ys))) := by
  intro pins s σ H xs us Q I r h
  obtain ⟨p, ys, rfl, hq, q⟩ := h
  obtain ⟨u, rfl, rx⟩ := vals1 r
  cases rx
  have fin : ∀ (its : List Value), Vals ys its → ys.length ≤ sizeLine → ∀ (h' : Heap) (c' : Nat), (∀ b o', s.heap.get? b = some o' → h'.get? b = some o') →
      h'.get? s.heap.objs.size = some { cls := .type "list", dict := none, data := .seq its.toArray c', slots := #[] } → EP X pins σ Q (.ref s.heap.objs.size) { s with heap := h' } := fun its r' hz h' c' kp e =>
    ⟨.ref s.heap.objs.size, _, I.laid (t' := s.toks) kp (Nat.le_refl _) (show ObjOk X.prog X.w _ h' _ (.lst ys) from ⟨hz, its, c', r', e⟩), rfl, q _ (I.hok.fresh (Nat.le_refl _))⟩
  rcases hq with hq | hq
  · obtain ⟨its, r', pl, hz⟩ := I.list hq
    have hlen := r'.length
    obtain ⟨o, ho, hc, n, hd⟩ := pl.isList
    exact call_list_seq p (.inl rfl) ho hc hd (fun h' c' kp e => fin its r' hz h' c' kp e) (by simp only [List.size_toArray] <;> omega)
  · obtain ⟨its, r', pl, hz⟩ := I.tuple hq
    have hlen := r'.length
    obtain ⟨o, ho, hc, n, hd⟩ := pl
    exact call_list_seq p (.inr rfl) ho hc hd (fun h' c' kp e => fin its r' hz h' c' kp e) (by simp only [List.size_toArray] <;> omega)
theorem call_tuple_of : CallR X (.type "tuple") (fun xs H Q => ∃ p ys, xs = [.ref p] ∧ ((SqL X.K H p ys ∧ ∀ l, H l = none → Q (.ref l) (upd H l (.tup ys))) ∨ (SqT X.K H p ys ∧ Q (.ref p) H))) := by
  intro pins s σ H xs us Q I r h
  obtain ⟨p, ys, rfl, h⟩ := h
  obtain ⟨u, rfl, rx⟩ := vals1 r
  cases rx
  rcases h with ⟨hq, q⟩ | ⟨hq, q⟩
  · obtain ⟨its, r', pl, hz⟩ := I.list hq
    have hlen := r'.length
    refine call_tuple_list pl.isList (fun h' kp => ?_) (by simp only [List.size_toArray] <;> omega)
    have I1 : Inv X pins σ H { s with heap := h' } := I.kept (t' := s.toks) kp
    have I2 : Inv X pins σ (upd H h'.objs.size (.tup ys)) { s with heap := h'.push { cls := .type "tuple", data := .seq its.toArray } } :=
      I1.laid (t' := s.toks) (fun b o e => Heap.get?_push_of_some _ e) (Nat.le_refl _) (show ObjOk X.prog X.w _ _ _ (.tup ys) from ⟨hz, its, r', IsTup.new _ _⟩)
    exact ⟨.ref h'.objs.size, _, I2, rfl, q _ (I1.hok.fresh (Nat.le_refl _))⟩
  · obtain ⟨its, r', pl, hz⟩ := I.tuple hq
    exact call_tuple_same pl ⟨.ref p, H, I, rfl, q⟩

/-! ### the call of a builtin's method: o.m(..) -/
/-- the value is of that builtin type -/
def tyV (K : PySem.W.Frag) (T : String) (x : V) (H : Hp) : Prop := match x with
  | .str _ => T = "str"
  | .int _ => T = "int"
  | .ref p => (T = "list" ∧ ∃ xs, SqL K H p xs) ∨ (T = "tuple" ∧ ∃ o, K.lookup p = some o ∧ o.cls = .type "tuple" ∧ o.dict = none) ∨
      (T = "dict" ∧ ((∃ kvs, H p = some (.dK kvs)) ∨ ∃ kvs, H p = some (.dT kvs))) ∨ (T = "set" ∧ ∃ S n, H p = some (.set S n))
  | _ => False
theorem tyV_is {pins : List (Addr × Obj)} {σ : St} {H : Hp} {s : Shared} {T : String} {x : V} {v : Value} (I : Inv X pins σ H s) (r : RelV x v) (ty : tyV X.K T x H) :
    s.TypeIs v T ∧ ∀ a, v = .ref a → ∃ ob, s.heap.get? a = some ob ∧ ob.dict = none := by
  cases x with
  | str z =>
    obtain ⟨t, rfl⟩ := r
    cases (show T = "str" from ty)
    exact ⟨typeIs_str s z t, fun _ e => nomatch e⟩
  | int i =>
    obtain ⟨t, rfl⟩ := r
    cases (show T = "int" from ty)
    exact ⟨typeIs_int s i t, fun _ e => nomatch e⟩
  | ref p =>
    cases r
    rcases ty with ⟨rfl, xs, hq⟩ | ⟨rfl, o, hk, hc, hd⟩ | ⟨rfl, hk⟩ | ⟨rfl, S, n, hk⟩
    · obtain ⟨its, _, pl, _⟩ := I.list hq
      refine ⟨pl.isList.typeIs, fun a e => ?_⟩
      cases e
      obtain ⟨o, n, e, c, hd, _⟩ := pl
      exact ⟨o, e, hd⟩
    · refine ⟨⟨o, I.kIn p o hk, hc⟩, fun a e => ?_⟩
      cases e
      exact ⟨o, I.kIn _ o hk, hd⟩
    · have z : ∃ o, s.heap.get? p = some o ∧ o.ExactDict := by
        rcases hk with ⟨kvs, hk⟩ | ⟨kvs, hk⟩
        · obtain ⟨_, _, _, _, o, _, _, e, ex, _⟩ := I.hok p _ hk
          exact ⟨o, e, ex⟩
        · obtain ⟨_, _, _, _, o, _, _, e, ex, _⟩ := I.hok p _ hk
          exact ⟨o, e, ex⟩
      obtain ⟨o, e, ex⟩ := z
      refine ⟨⟨o, e, ex.1⟩, fun a e2 => ?_⟩
      cases e2
      exact ⟨o, e, ex.2.1⟩
    · obtain ⟨o, _, _, _, e, ex, _⟩ := I.hok p _ hk
      refine ⟨⟨o, e, ex.1⟩, fun a e2 => ?_⟩
      cases e2
      exact ⟨o, e, ex.2.1⟩
  | _ => exact False.elim ty
def tBM0 (K : PySem.W.Frag) (T : String) (r : V → List V → Hp → VK → Prop) (to : TE) : TE := fun σ H Q => to σ H fun x H1 => tyV K T x H1 ∧ r x [] H1 Q
def tBM (K : PySem.W.Frag) (T : String) (r : V → List V → Hp → VK → Prop) (to : TE) (t : TA) : TE := fun σ H Q => to σ H fun x H1 => tyV K T x H1 ∧ t σ H1 fun xs H2 => r x xs H2 Q
variable {o e : Expr} {es : List Expr} {to : TE} {t : TA} {name : Str} {apos cpos : Pos} {T id : String} {r : V → List V → Hp → VK → Prop}
theorem pe_bm0 (pa : PlainAttrs T) (slot : Slot T name id) (hty : typeOf (.builtin id) = pure (.type "method_descriptor")) (hm : MtR X id r) (ho : PE X o to)
    (hbase : attributeBase o name X.env (eval o X.env) = eval o X.env := by rfl) (hline : (apos.endLine == cpos.line) = true := by rfl) : PE X (.Call (.Attribute o name apos) [] [] cpos) (tBM0 X.K T r to) := by
  intro pins s σ H Q I h
  refine wpAny_Call_method0_late hbase hline (thn (ho pins s σ H _ I h) fun v s1 ⟨x, H1, I1, r1, ty, q1⟩ => ?_)
  obtain ⟨h1, h2⟩ := tyV_is I1 r1 ty
  exact ⟨T, id, pa, slot, hty, h1, h2, Calls.callWith_builtin rfl (PySem.evalArgs_none (hm pins s1 σ H1 x [] v [] Q I1 r1 .nil q1))⟩
theorem pe_bm (pa : PlainAttrs T) (slot : Slot T name id) (hty : typeOf (.builtin id) = pure (.type "method_descriptor")) (hm : MtR X id r) (ho : PE X o to) (ha : PA X (e :: es) t)
    (hbase : attributeBase o name X.env (eval o X.env) = eval o X.env := by rfl)
    (hfew : ((backTo cpos (starEach (e :: es) X.env)).all (fun x => !x.1) && (backToKw cpos (keywordEach [] X.env)).all (fun x => x.1.isSome)
      && decide ((e :: es).length + ([] : List Keyword).length + (if ([] : List Keyword).isEmpty then 0 else 1) < 30)) = true := by rfl)
    (hline : (apos.endLine == cpos.line) = true := by rfl) (hs : starEach (e :: es) X.env = (false, eval e X.env) :: starEach es X.env := by rfl) (hplain : (backTo cpos (starEach es X.env)).any (·.1) = false := by rfl) :
    PE X (.Call (.Attribute o name apos) (e :: es) [] cpos) (tBM X.K T r to t) := by
  intro pins s σ H Q I h
  refine wpAny_Call_method_late hbase hfew hline rfl (thn (ho pins s σ H _ I h) fun v s1 ⟨x, H1, I1, r1, ty, q1⟩ => ?_)
  obtain ⟨h1, h2⟩ := tyV_is I1 r1 ty
  refine ⟨T, id, pa, slot, hty, h1, h2, ?_⟩
  have hA := ha cpos pins s1 σ H1 _ I1 q1
  rw [hs] at hA ⊢
  refine Calls.callWith_builtin (by show (false || (backTo cpos (starEach es X.env)).any (·.1)) = false; rw [hplain] <;> rfl) (Calls.evalArgs_plain ?_)
  exact thn hA fun us s2 ⟨vs, H2, I2, r2, q2⟩ => hm pins s2 σ H2 x vs v us Q I2 r1 r2 q2
/- xs.append(e), list.index on a module's tuple .. are MtR facts of 06m -/
end
end L2

namespace L2
open PySem PySem.Spec PyProof.Rows

def MtM (X : Cx) (id : String) (r : V → List V → Hp → VK → Prop) : Prop :=
  ∀ (pins : List (Addr × Obj)) (s : Shared) (σ : St) (H : Hp) (x : V) (xs : List V) (v : Value) (us : List Value) (Q : VK), Inv X pins σ H s → RelV x v → Vals xs us → r x xs H Q →
    wpAny (model X.prog X.w) X.A (call (.builtin id) (v :: us)) (EP X pins σ Q) X.xe s

/-! ### lists of values -/
theorem Vals.one : ∀ {x : V} {us : List Value}, Vals [x] us → ∃ u, us = [u] ∧ RelV x u
  | _, _, .cons r .nil => ⟨_, rfl, r⟩
theorem Vals.two : ∀ {x y : V} {us : List Value}, Vals [x, y] us → ∃ u v, us = [u, v] ∧ RelV x u ∧ RelV y v
  | _, _, _, .cons r (.cons q .nil) => ⟨_, _, rfl, r, q⟩
theorem Vals.zero : ∀ {us : List Value}, Vals [] us → us = []
  | _, .nil => rfl
theorem Vals.dropLast {xs : List V} {us : List Value} (h : Vals xs us) : Vals xs.dropLast us.dropLast := by
  induction h with
  | nil => exact .nil
  | cons r t ih =>
    cases t with
    | nil => exact .nil
    | cons q t' => exact .cons r ih
theorem Vals.reverse {xs : List V} {us : List Value} (h : Vals xs us) : Vals xs.reverse us.reverse := by
  induction h with
  | nil => exact .nil
  | cons r t ih => rw [List.reverse_cons, List.reverse_cons]; exact Vals.append ih (.cons r .nil)
theorem Vals.rep {xs : List V} {us : List Value} (h : Vals xs us) : ∀ k : Nat, Vals (List.replicate k xs).flatten (List.replicate k us).flatten
  | 0 => .nil
  | k + 1 => by
    rw [List.replicate_succ, List.replicate_succ, List.flatten_cons, List.flatten_cons]
    exact Vals.append h (Vals.rep h k)
section
variable {X : Cx} {pins : List (Addr × Obj)} {σ : St} {H : Hp} {s : Shared} {l b : Addr} {xs ys zs : List V}

/-! ### the two steps: a tracked list is rewritten, a new list is laid -/
theorem Inv.lset {its its' : List Value} {n : Nat} {f : Array Value → Array Value} {t' : Nat} (I : Inv X pins σ H s) (hH : H l = some (.lst xs))
    (e : s.heap.get? l = some { cls := .type "list", data := .seq its.toArray n }) (hf : f its.toArray = its'.toArray) (hv : Vals ys its') (hz : ys.length ≤ sizeLine) :
    Inv X pins σ (upd H l (.lst ys)) { s with heap := s.heap.update l (Obj.mapSeq f), toks := t' } := by
  have q := PySem.IsL.update e f
  rw [hf] at q
  refine I.write (x := l) (e := l) (by rw [hH]; exact trivial) (.inl rfl) (fun b' u hb hu => (Heap.get?_update_other s.heap (Obj.mapSeq f) (Ne.symm hb)).trans hu) ⟨_, q⟩ ?_
  exact ⟨hz, its', _, hv, q⟩
theorem Inv.lnew {its : List Value} {t' : Nat} (I : Inv X pins σ H s) (hv : Vals ys its) (hz : ys.length ≤ sizeLine) :
    Inv X pins σ (upd H s.heap.objs.size (.lst ys)) { s with heap := s.heap.push { cls := .type "list", data := .seq its.toArray }, toks := t' } :=
  I.laid (fun _ _ q => Heap.get?_push_of_some _ q) (Nat.le_refl _) ⟨hz, its, 0, hv, Heap.get?_push_size _ rfl⟩
theorem Inv.fresh (I : Inv X pins σ H s) : H s.heap.objs.size = none := I.hok.fresh (Nat.le_refl _)
theorem Inv.lstM (I : Inv X pins σ H s) (hH : H l = some (.lst xs)) : xs.length ≤ sizeLine ∧ ∃ (its : List Value) (n : Nat), Vals xs its ∧ xs.length = its.length ∧ s.heap.get? l = some { cls := .type "list", data := .seq its.toArray n } := by
  obtain ⟨z, its, n, r, e⟩ := I.hok l _ hH
  exact ⟨z, its, n, r, r.length, e⟩

end

section
variable {X : Cx}

/-! ### methods -/
def rAppend : V → List V → Hp → VK → Prop := fun x vs H Q => ∃ l xs y, x = .ref l ∧ vs = [y] ∧ H l = some (.lst xs) ∧ xs.length < sizeLine ∧ Q .non (upd H l (.lst (xs ++ [y])))
theorem mt_append : MtM X "list.append" rAppend := by
  intro pins s σ H x vs v us Q I rx rv h
  obtain ⟨l, xs, y, rfl, rfl, hH, hz, q⟩ := h
  cases rx
  obtain ⟨u, rfl, ru⟩ := rv.one
  obtain ⟨z, its, n, r, hl, e⟩ := I.lstM hH
  refine call_meets F.slot_list_append ⟨_, e, rfl⟩ F.entry_list_append (F.args_list_append_2 _ _) (PySem.list_append l its.toArray n u (by rw [List.size_toArray]; omega)) ⟨e, ?_⟩
  refine ⟨.non, _, I.lset (its' := its ++ [u]) hH e (by simp) (r.append (.cons ru .nil)) ?_, rfl, q⟩
  rw [List.length_append, List.length_singleton]
  omega

def rClear : V → List V → Hp → VK → Prop := fun x vs H Q => ∃ l xs, x = .ref l ∧ vs = [] ∧ H l = some (.lst xs) ∧ Q .non (upd H l (.lst []))
theorem mt_clear : MtM X "list.clear" rClear := by
  intro pins s σ H x vs v us Q I rx rv h
  obtain ⟨l, xs, rfl, rfl, hH, q⟩ := h
  cases rx
  have hus := rv.zero
  subst hus
  obtain ⟨z, its, n, r, hl, e⟩ := I.lstM hH
  refine call_meets F.slot_list_clear ⟨_, e, rfl⟩ F.entry_list_clear (F.args_list_clear_1 _) (AutoSeq1.list_clear_list_0 l its.toArray n (by rw [List.size_toArray]; omega)) ⟨e, ?_⟩
  exact ⟨.non, _, I.lset (its' := []) (ys := []) hH e rfl .nil (Nat.zero_le _), rfl, q⟩

/-! ### list + list, list += list, list * int -/
def rCat : R2 := fun x y H Q => ∃ l b xs zs, x = .ref l ∧ y = .ref b ∧ H l = some (.lst xs) ∧ H b = some (.lst zs) ∧ xs.length + zs.length ≤ sizeLine ∧ ∀ p, H p = none → Q (.ref p) (upd H p (.lst (xs ++ zs)))
theorem op_cat : OpR X (binaryOp .Add) rCat := by
  intro pins s σ H x y v u Q I rx ry h
  obtain ⟨l, b, xs, zs, rfl, rfl, hH, hB, hz, q⟩ := h
  cases rx
  cases ry
  obtain ⟨z, its, n, r, hl, e⟩ := I.lstM hH
  obtain ⟨z2, its2, n2, r2, hl2, e2⟩ := I.lstM hB
  refine PySem.P.add_list e e2 ?_ (by rw [List.size_toArray, List.size_toArray]; omega)
  have ea : its.toArray ++ its2.toArray = (its ++ its2).toArray := by simp
  rw [ea]
  exact ⟨.ref _, _, I.lnew (t' := s.toks) (r.append r2) (by rw [List.length_append]; omega), rfl, q _ I.fresh⟩
/-! ### del xs[i] -/
end

/-! ### xs[a:b] = ys -/
section
variable {prog : Program} {w : World} {A : Around} {E : Value → Shared → Prop} {s : Shared}
end

section
variable {X : Cx}
end
end L2

namespace Att
open PySem PySem.W PySem.Calls PyProof.Rows

/-! ### the script -/
theorem ints_of_wellAll {P : Params} {h : Heap} : ∀ (ns : List Int) (vs : List Value), WellAll P h vs (ns.map WData.int) → IntsAre vs ns := by
  intro ns
  induction ns with
  | nil =>
    intro vs w
    rw [List.map_nil] at w
    cases w
    exact .nil
  | cons n ns ih =>
    intro vs w
    rw [List.map_cons] at w
    cases w with
    | cons a b =>
      cases a
      exact .cons _ _ (ih _ b)

theorem script_of {l : OpenLaw} {n : Nat} (hn : l.most = some n) {P : Params} {h : Heap} {args : List WData} {vals : List Value}
    (hpre : l.row.toRowW.claim.pre args = true) (hwl : WellAll P h vals args) :
    ∃ a vs ns, vals = [Value.ref a] ∧ args = [WData.list (ns.map WData.int)] ∧ h.get? a = some { cls := .type "list", data := .seq vs.toArray } ∧ IntsAre vs ns ∧ ns.length ≤ n := by
  have hsh : WShape.hasAll [] args [.list .int] = true := (pre_splitW hpre).1
  have hc : l.pre.holds [] { args := args } = true := (pre_splitW hpre).2
  obtain ⟨d, r, rfl, h1, h2⟩ := hasAllW_cons hsh
  obtain rfl := hasAllW_nil h2
  obtain ⟨xs, rfl, h3⟩ := hasW_list h1
  obtain ⟨ns, rfl⟩ := items_int h3
  have hlen : ns.length ≤ n := by
    unfold OpenLaw.pre at hc
    have h4 : (WTm.not (.lt (.lit (.int (n : Int))) (.len (.arg 0)))).holds [] { args := [.list (ns.map .int)] } = true := by
      have h4 := (holds_andW hc).1
      rw [hn] at h4
      exact h4
    have h5 := condW_of h4 (w_not (w_lt w_lit (w_len_list (w_arg rfl))))
    rw [List.length_map] at h5
    refine Nat.le_of_not_lt fun q => ?_
    have q' : (n : Int) < ((ns.length : Nat) : Int) := by omega
    first
      | (rw [decide_eq_true q'] at h5; exact absurd h5 (by decide))
      | (simp at h5; omega)
  cases hwl with
  | cons w1 w2 =>
    cases w2
    cases w1 with
    | list ho hall => exact ⟨_, _, ns, rfl, rfl, ho, ints_of_wellAll ns _ hall, hlen⟩

theorem post_true (l : OpenLaw) (args : List WData) : l.row.toRowW.claim.post args (.bool true) args = true :=
  postW_of (r := l.row.toRowW) (X := (true == true))
    (show WShape.has [] (.bool true) .bool = true by first | rfl | decide | simp [WShape.has, WShape.arms, WShape.armsAll])
    (show (WTm.eq .res (.lit (.bool true))).value [] { args := args, res := some (.bool true), after := args } = some (.bool (true == true)) from w_eq_bool (w_res rfl) w_lit) rfl

/-! ### the attachment: holds_open's last premise (the goal 'hc' behind k_head) from a wpAny of the law's body -/
/-- the same from a codeAny of the CALL (for a layer whose function contracts speak of calls) -/
theorem attach_call {l : OpenLaw} {n : Nat} {q : Program} {loose : List Str} {XP : (Str → Option Value) → Heap → Prop} {YP : World → Heap → Prop} {d : DefRec}
    (hn : l.most = some n) (hdf : d.params.defaults = [])
    (call : ∀ (w : World) (s₀ s₁ : Shared) (mg mb : Str → Option Value) (fa : Addr) (o : Obj) (pm cd doc : Value) (a : Addr) (vs : List Value) (ns : List Int),
      Ground q loose [] XP w s₀ mg mb s₁.heap → YP w s₁.heap →
      s₁.heap.get? fa = some o → o.data = .func (docDef d.name d.params d.body d.scope pm cd doc) → s₁.heap.CodeRec cd d.name → mg d.name = some (.ref fa) →
      s₁.heap.get? a = some { cls := .type "list", data := .seq vs.toArray } → IntsAre vs ns → ns.length ≤ n → s₁.gens = #[] →
      codeAny (model l.prog w) callerA (.call (.ref fa) ⟨[.ref a], []⟩) (fun r s' => r = .ok (.ret (.bool true)) ∧ OldK s₁.heap s'.heap ∧ s'.os = s₁.os ∧ AllBare s'.gens) s₁) :
    WalkO q loose XP YP l.row.toRowW d [] (fun f vs => PySem.call f vs) := by
  intro w s₀ s₁ mg mb G Y fa o pm cd doc dV kV ho hd hcd hD hmg hg args vals as hpre hlay hrd hwl hlo
  obtain rfl : dV = .none := Dflts.none hD hdf
  obtain rfl : kV = .none := Dflts.noKw hD
  obtain ⟨a, vs, ns, rfl, rfl, hobj, hints, hlen⟩ := script_of hn hpre hwl
  refine enter_call (codeAny_mono (call w s₀ s₁ mg mb fa o pm cd doc a vs ns G Y ho (fd_plain hd) hcd hmg hobj hints hlen hg) fun r s' hq => ?_)
  obtain ⟨rfl, h2, h3, h4⟩ := hq
  exact ⟨.inl ⟨.bool true, .bool true, [], rfl, fun _ => rfl, .bool true, post_true l _, fun _ => ⟨List.Pairwise.nil, fun _ hm => (nomatch hm)⟩⟩, h2, h3, h4⟩

/-! ### rules over ANY heap (no ledger) from facts about the written part K: the library's own take a ledger (News) for what they write -/
section
variable {prog : Program} {w : World} {A : Around} {E : Value → Shared → Prop} {s : Shared} {K : Frag}

/-! the whole heap as the ledger: makes every rule that writes through a ledger a rule over any heap -/
def ledger (h : Heap) (L d : Addr) : List (Addr × Obj) := (List.range h.objs.size).filterMap fun a => if a = L ∨ a = d then none else (h.get? a).map fun o => (a, o)
end
end Att

namespace L2
open PySem PySem.Spec PyProof.Rows

theorem vals_ints : ∀ {vs : List Value} {ns : List Int}, IntsAre vs ns → Vals (ns.map V.int) vs
  | _, _, .nil => .nil
  | _, _, .cons n t h => .cons ⟨t, rfl⟩ (vals_ints h)

/-- nothing is tracked but the script, known to the object (or it is an object of the module) -/
def Only (H : Hp) : Prop := ∀ b, H b = none ∨ ∃ o xs, H b = some (.frz o (.lst xs))

/-- THE HEAD: the law's promise, at the heap behind the top. F, the promise of the law's def, may use that base is part of the heap (so K.In base, base.Ns mainGlobals mg stand in Mod) -/
theorem law_call {P : Program} {w : World} {K : PySem.W.Frag} {mg mb : Str → Option Value} {CX : CXT} {k : Nat} {fa a : Addr} {fd : FuncData} {x : Str} {sp : Sp} {s₁ : Shared} {vs : List Value} {ns : List Int}
    (KX : K.In s₁.heap) (hns : s₁.heap.Ns mainGlobals mg) (hb : s₁.heap.Ns builtinsNs mb) (hbb : ∀ x : Str, x ≠ "__name__" → mb x = bootBuiltins x) (hlim : s₁.heap.NoLimit) (hg : s₁.gens = #[])
    (ha : s₁.heap.get? a = some { cls := .type "list", data := .seq vs.toArray }) (hi : IntsAre vs ns) (hl : ns.length ≤ sizeLine) (hr : Room k callerA)
    (F : ∀ base : Heap, K.In base → base.Ns mainGlobals mg → FnOk P w K mg base CX k fa fd [x] sp) (hbind : ∀ (s : Shared) (u : Value), BindsTo s fd ⟨[u], []⟩ [(x, u)])
    (hsp : ∀ H : Hp, Only H → SqL K H a (ns.map V.int) → sp [.ref a] H (fun v _ => v = .bl true) fun _ _ _ => False)
    (hCX : ∀ H e s', CX [] H s₁ (fun _ _ _ => False) e s' → False) :
    codeAny (model P w) callerA (.call (.ref fa) ⟨[.ref a], []⟩) (fun r s' => r = .ok (.ret (.bool true)) ∧ OldK s₁.heap s'.heap ∧ s'.os = s₁.os ∧ AllBare s'.gens) s₁ := by
  have rv := vals_ints hi
  have lenV := hi.length
  -- from an abstract heap in which nothing but the script may be tracked
  have core : ∀ H : Hp, Only H → SqL K H a (ns.map V.int) → HOk P w H s₁.heap → (∀ b, H b ≠ none → b = a) → (H a ≠ none → K.lookup a = none) →
      codeAny (model P w) callerA (.call (.ref fa) ⟨[.ref a], []⟩) (fun r s' => r = .ok (.ret (.bool true)) ∧ OldK s₁.heap s'.heap ∧ s'.os = s₁.os ∧ AllBare s'.gens) s₁ := by
    intro H hO hS hok hA hK
    have base_of : ∀ {b : Addr} {o : Obj}, s₁.heap.get? b = some o → H b = none → (hidT s₁.heap H).get? b = some o := fun e n => hidT_get e n
    have noA : ∀ {b : Addr} {o : Obj} {es : Array DictEntry} {ep : Nat}, s₁.heap.get? b = some o → o.data = .dict es ep → H b = none := fun {b o es ep} e d => by
      cases q : H b with
      | none => rfl
      | some u =>
        have e' : b = a := hA b (by rw [q]; simp)
        subst e'
        rw [ha] at e; cases e
        have d' : Data.seq vs.toArray _ = Data.dict es ep := d
        cases d'
    have nsK : ∀ {b : Addr} {m : Str → Option Value}, s₁.heap.Ns b m → (hidT s₁.heap H).Ns b m := fun {b m} ⟨o, es, ep, e, d, r⟩ => ⟨o, es, ep, base_of e (noA e d), d, r⟩
    have hKb : K.In (hidT s₁.heap H) := fun b o e => base_of (KX b o e) (by
      cases q : H b with
      | none => rfl
      | some u =>
        have e' : b = a := hA b (by rw [q]; simp)
        subst e'
        rw [hK (by rw [q]; simp)] at e; cases e)
    have hM : Mod K mg (hidT s₁.heap H) := ⟨hKb, nsK hns, ⟨mb, nsK hb, hbb⟩, let ⟨mc, h1, h2⟩ := hlim; ⟨mc, nsK h1, h2⟩⟩
    have e0 : Env0 P w K mg (hidT s₁.heap H) callerA [] s₁ H := ⟨rfl, hM, fun b o e => of_hidT e, Nat.le_of_eq (hidT_size _ _), trivial, fun b hb => absurd (show b ∈ ([] : List Addr) from hb) (by simp), hok, .of_eq hg⟩
    refine codeAny_mono ((F _ hKb (nsK hns)).run callerA [] s₁ H ⟨[.ref a], []⟩ [.ref a] [.ref a] _ _ hr e0 (hbind s₁ (.ref a)) (.cons rfl .nil) (hsp H hO hS)) fun r s' h => ?_
    cases r with
    | error e => exact (hCX H e s' h).elim
    | ok fl =>
      cases fl with
      | next => exact False.elim h
      | brk => exact False.elim h
      | cont => exact False.elim h
      | ret u =>
        obtain ⟨v, H', os, bare, un, hok', r', q⟩ := h
        have q' : v = .bl true := q
        subst q'
        obtain rfl : u = Value.bool true := r'
        refine ⟨rfl, OldK.of_keep fun b o e => ?_, os, bare⟩
        cases q : H b with
        | none => exact un.keep b o e q (by intro z; exact absurd (show b ∈ ([] : List Addr) from z) (by simp)) (by simp)
        | some u =>
          rcases hO b with z | ⟨ob, xs, z⟩
          · rw [q] at z; cases z
          · have z2 := un.frzs b ob _ z
            obtain ⟨e1, _⟩ := hok b _ z
            obtain ⟨e2, _⟩ := hok' b _ z2
            rw [e] at e1; cases e1
            exact e2
  cases hk : K.lookup a with
  | some o =>
    -- the script is one of the module's own objects
    have e := KX a o hk
    rw [ha] at e
    cases e
    refine core (fun _ => none) (fun _ => .inl rfl) (.inr ⟨_, vs.toArray, _, hk, rfl, rfl, rfl, by rw [List.size_toArray, lenV]; exact hl, by simpa using rv⟩) (fun b u z => by have z' : (none : Option HO) = some u := z; cases z') (fun b z => absurd rfl z) fun z => absurd rfl z
  | none =>
    refine core (fun b => if b = a then some (.frz { cls := .type "list", data := .seq vs.toArray } (.lst (ns.map V.int))) else none) (fun b => ?_) (.inl (.inr ⟨{ cls := .type "list", data := .seq vs.toArray }, if_pos rfl⟩)) (fun b u z => ?_) (fun b z => ?_) fun _ => hk
    · by_cases hb : b = a
      · exact .inr ⟨_, _, if_pos hb⟩
      · exact .inl (if_neg hb)
    · by_cases hb : b = a
      · have z' := (if_pos hb).symm.trans z
        cases z'
        subst hb
        exact ⟨ha, by rw [List.length_map]; exact hl, vs, _, rv, ha⟩
      · have z' := (if_neg hb).symm.trans z
        cases z'
    · by_cases hb : b = a
      · exact hb
      · exact absurd (if_neg hb) z
end L2

namespace L2
open PySem PySem.Spec PyProof.Rows

/-- the goal that k_head leaves (case hc), from the law's promise. F gives the function object fd (K's own) once, then the promise over every base -/
theorem walk_of {l : PySem.W.OpenLaw} {n k : Nat} {q : Program} {loose : List Str} {XP : (Str → Option Value) → Heap → Prop} {YP : World → Heap → Prop} {d : DefRec} {K : Params → PySem.W.Frag} {CX : World → CXT} {sp : World → Sp} {x : Str}
    (hn : l.most = some n) (hn2 : n ≤ sizeLine) (hdf : d.params.defaults = []) (hr : Room k callerA)
    (hY : ∀ (w : World) (h : Heap), YP w h → (K w.params).In h)
    (F : ∀ (w : World) (mg : Str → Option Value) (fa : Addr) (h : Heap), (K w.params).In h → h.Ns mainGlobals mg → mg d.name = some (.ref fa) →
      ∃ fd : FuncData, (∀ (s : Shared) (u : Value), BindsTo s fd ⟨[u], []⟩ [(x, u)]) ∧
        ∀ base : Heap, (K w.params).In base → base.Ns mainGlobals mg → FnOk l.prog w (K w.params) mg base (CX w) k fa fd [x] (sp w))
    (hsp : ∀ (w : World) (H : Hp) (a : Addr) (ns : List Int), ns.length ≤ n → Only H → SqL (K w.params) H a (ns.map V.int) → sp w [.ref a] H (fun v _ => v = .bl true) fun _ _ _ => False)
    (hCX : ∀ (w : World) (H : Hp) (s : Shared) (e : Value) (s' : Shared), CX w [] H s (fun _ _ _ => False) e s' → False) :
    PySem.W.WalkO q loose XP YP l.row.toRowW d [] (fun f vs => PySem.call f vs) := by
  refine Att.attach_call hn hdf fun w s₀ s₁ mg mb fa o pm cd doc a vs ns G Y ho hd hcd hmg hobj hints hlen hg => ?_
  have KX := hY w _ Y
  obtain ⟨fd, hb, hF⟩ := F w mg fa _ KX G.T.g hmg
  exact law_call KX G.T.g G.T.b G.T.builtins G.T.nolimit hg hobj hints (Nat.le_trans hlen hn2) hr hF hb (fun H hO hS => hsp w H a ns hlen hO hS) fun H e s' => hCX w H s₁ e s'
/-- the same where the promise hangs on the written part alone: (sp := My.sp_law), no hole under a binder -/
theorem walk_ofK {l : PySem.W.OpenLaw} {n k : Nat} {q : Program} {loose : List Str} {XP : (Str → Option Value) → Heap → Prop} {YP : World → Heap → Prop} {d : DefRec} {K : Params → PySem.W.Frag} {CX : CXT} {sp : PySem.W.Frag → Sp} {x : Str}
    (hn : l.most = some n) (hn2 : n ≤ sizeLine) (hdf : d.params.defaults = []) (hr : Room k callerA)
    (hY : ∀ (w : World) (h : Heap), YP w h → (K w.params).In h)
    (F : ∀ (w : World) (mg : Str → Option Value) (fa : Addr) (h : Heap), (K w.params).In h → h.Ns mainGlobals mg → mg d.name = some (.ref fa) →
      ∃ fd : FuncData, (∀ (s : Shared) (u : Value), BindsTo s fd ⟨[u], []⟩ [(x, u)]) ∧
        ∀ base : Heap, (K w.params).In base → base.Ns mainGlobals mg → FnOk l.prog w (K w.params) mg base CX k fa fd [x] (sp (K w.params)))
    (hsp : ∀ (K : PySem.W.Frag) (H : Hp) (a : Addr) (ns : List Int), ns.length ≤ n → Only H → SqL K H a (ns.map V.int) → sp K [.ref a] H (fun v _ => v = .bl true) fun _ _ _ => False)
    (hCX : ∀ (H : Hp) (s : Shared) (e : Value) (s' : Shared), CX [] H s (fun _ _ _ => False) e s' → False) :
    PySem.W.WalkO q loose XP YP l.row.toRowW d [] (fun f vs => PySem.call f vs) :=
  walk_of (K := K) (CX := fun _ => CX) (sp := fun w => sp (K w.params)) hn hn2 hdf hr hY F (fun w H a ns h1 h2 h3 => hsp (K w.params) H a ns h1 h2 h3) fun _ H s e s' => hCX H s e s'
end L2


/-! SHORT WORDS over the layer: a def of the text, its body, what a loop and a test want. -/
namespace L2
open PySem PySem.Spec PyProof.Rows

/-! ### the text by places -/
def defArgs (s : Stmt) : Arguments := match s with
  | .FunctionDef _ a _ _ _ _ _ _ _ _ => a
  | _ => { posonlyargs := [], args := [], vararg := none, kwonlyargs := [], kw_defaults := [], kwarg := none, defaults := [] }
def defBody (s : Stmt) : List Stmt := match s with
  | .FunctionDef _ _ b _ _ _ _ _ _ _ => b
  | _ => []
def defScope (s : Stmt) : Scope := match s with
  | .FunctionDef _ _ _ _ _ _ sc _ _ _ => sc
  | _ => { kind := .function, names := [], isGenerator := false, isCoroutine := false }

/-! ### no exception leaves a def -/
abbrev CX0 : CXT := fun _ _ _ _ _ _ => False
abbrev E0 : XK := fun _ _ _ => False
theorem pass0 {X : Cx} : Passes CX0 X E0 := fun _ _ _ _ _ _ _ h => h.elim

/-! ### a def (or method) of the text as it stands behind the top -/
structure Fun (K : PySem.W.Frag) (x qual : Str) (st : Stmt) (f : Addr) (fd : FuncData) : Prop where
  ex : ∃ (oc : Value) (od : Option Addr) (kV doc pm : Value) (an : Option Addr) (cdv ct : Value) (osl : Array (Option Value)),
    fd = PySem.W.fnOf x qual (defArgs st) (defBody st) (defScope st) .none kV doc pm an cdv ct ∧ K.lookup f = some ⟨oc, od, .func fd, osl⟩ ∧ PySem.W.codeIn K cdv qual = true
  kp : PySem.W.keepIn K (.ref f) = true
section
variable {P : Program} {w : World} {K : PySem.W.Frag} {mg : Str → Option Value} {base : Heap}
/-- THE RULE for a def: its body as a term of rules, and the reading of that term -/
theorem Fun.ok {x qual : Str} {st : Stmt} {f : Addr} {fd : FuncData} {N ps : List Str} {k : Nat} {sp : Sp} (F : Fun K x qual st f fd) (S : FnScope N ps (defScope st)) (len : ∀ vs H Q E, sp vs H Q E → vs.length = ps.length)
    (hbody : ∀ (cdv : Value) (A : Around) (outer : List Env) (s : Shared) (H : Hp) (vs : List V) (Q : VK) (E : XK), Room k (A.deeper (envOfC qual (defScope st) s.heap.objs.size f cdv)) → sp vs H Q E →
      ∃ t, PSs (cxOf CX0 P w K mg base N qual (defScope st) f cdv A outer s H E).nox (defBody st) t ∧ t { nx := fun _ H' => Q .non H', rt := Q } (start N vs) H) : FnOk P w K mg base CX0 (k + 1) f fd ps sp := by
  obtain ⟨oc, od, kV, doc, pm, an, cdv, ct, osl, rfl, lk, hcd⟩ := F.ex
  refine fn_of lk hcd S len fun A outer s H vs Q E hr hsp => ?_
  obtain ⟨t, h, q⟩ := hbody cdv A outer s H vs Q E hr hsp
  exact ⟨t, h.nox, q⟩
/-- how its arguments bind (no defaults): h is «fun _ _ _ _ _ _ us hl => match us, hl with | [_, _], _ => rfl», one _ a parameter -/
theorem Fun.binds {x qual : Str} {st : Stmt} {f : Addr} {fd : FuncData} {ps : List Str} (F : Fun K x qual st f fd)
    (h : ∀ (kV doc pm : Value) (an : Option Addr) (cdv ct : Value) (us : List Value), us.length = ps.length → bindArgs (PySem.W.fnOf x qual (defArgs st) (defBody st) (defScope st) .none kV doc pm an cdv ct) ⟨us, []⟩ = pure (ps.zip us)) : Binds K fd ps [] := by
  obtain ⟨oc, od, kV, doc, pm, an, cdv, ct, osl, rfl, lk, hcd⟩ := F.ex
  exact .all (h kV doc pm an cdv ct)
theorem fun_mk {x qual : Str} {st : Stmt} {f : Addr} {oc : Value} {od an : Option Addr} {osl : Array (Option Value)} {kV doc pm cdv ct : Value} (l : K.lookup f = some ⟨oc, od, .func (PySem.W.fnOf x qual (defArgs st) (defBody st) (defScope st) .none kV doc pm an cdv ct), osl⟩)
    (c : PySem.W.codeIn K cdv qual = true) (k : PySem.W.keepIn K (.ref f) = true) : Fun K x qual st f (PySem.W.fnOf x qual (defArgs st) (defBody st) (defScope st) .none kV doc pm an cdv ct) := ⟨⟨oc, od, kV, doc, pm, an, cdv, ct, osl, rfl, l, c⟩, k⟩
end
theorem small1000 {n : Nat} (h : n ≤ 1000) : n < sizeLine := Nat.lt_of_le_of_lt h (by decide)

/-! ### expressions in short: the name that stands in the i-th slot -/
section
variable {X : Cx}
theorem pv (i : Nat) {x : Str} {pos : Pos} (hN : X.N[i]? = some x := by rfl) (hv : Vis X.env.scope x := by first | exact Or.inl rfl | exact Or.inr (Or.inl rfl) | exact Or.inr (Or.inr rfl)) (hd : (x == ("__debug__" : Str)) = false := by decide)
    (hcd : (x == ("__classdict__" : Str)) = false := by decide) : PE X (.Name x pos) (tVar i) := pe_var hN hv hd hcd
end

/-! ### tests -/
/-! ### heaps -/
/-- all that was tracked is as it was -/
def Same (H H' : Hp) : Prop := ∀ b o, H b = some o → H' b = some o
theorem Same.refl (H : Hp) : Same H H := fun _ _ h => h
theorem Same.trans {H H1 H2 : Hp} (a : Same H H1) (b : Same H1 H2) : Same H H2 := fun c o h => b c o (a c o h)
theorem Same.free {H H' : Hp} (e : Same H H') {l : Addr} (h : H' l = Option.none) : H l = Option.none := by
  cases q : H l with
  | none => rfl
  | some o =>
    rw [e l o q] at h
    cases h
theorem Same.seq {K : PySem.W.Frag} {H H' : Hp} {a : Addr} {xs : List V} (e : Same H H') (h : SqL K H a xs) : SqL K H' a xs := by
  rcases h with (h | ⟨o, h⟩) | h
  · exact .inl (.inl (e _ _ h))
  · exact .inl (.inr ⟨o, e _ _ h⟩)
  · exact .inr h

end L2
namespace L2
open PySem PySem.Spec PyProof.Rows

/-! ### lists of pairs as tables -/
section
variable {κ : Type} [DecidableEq κ]
def valV (kvs : List (κ × V)) (k : κ) : Option V := (kvs.find? fun kv => decide (kv.1 = k)).map (·.2)
/-- in its place, or at the end -/
def putK (kvs : List (κ × V)) (k : κ) (v : V) : List (κ × V) :=
  if (kvs.any fun kv => decide (kv.1 = k)) = true then kvs.map (fun kv => if kv.1 = k then (kv.1, v) else kv) else kvs ++ [(k, v)]
def dropK (kvs : List (κ × V)) (k : κ) : List (κ × V) := kvs.filter fun kv => decide (kv.1 ≠ k)

theorem valV_pos {p : κ × V} {r : List (κ × V)} {k : κ} (e : p.1 = k) : valV (p :: r) k = some p.2 := by simp [valV, List.find?_cons, e]
theorem valV_neg {p : κ × V} {r : List (κ × V)} {k : κ} (e : ¬ p.1 = k) : valV (p :: r) k = valV r k := by simp [valV, List.find?_cons, e]
theorem valV_any (k : κ) : ∀ kvs : List (κ × V), (kvs.any fun kv => decide (kv.1 = k)) = (valV kvs k).isSome
  | [] => rfl
  | p :: r => by
    rw [List.any_cons]
    by_cases e : p.1 = k
    · simp only [valV_pos e, decide_eq_true e, Bool.true_or, Option.isSome_some]
    · rw [valV_neg e, decide_eq_false e, Bool.false_or]; exact valV_any k r
theorem RelO.isSome_eq {o : Option V} {u : Option Value} (r : RelO o u) : o.isSome = u.isSome := by
  cases o with
  | none => cases u with
    | none => rfl
    | some _ => exact (show False from r).elim
  | some _ => cases u with
    | none => exact (show False from r).elim
    | some _ => rfl
theorem RelO.getD {o : Option V} {u : Option Value} {d : V} {d' : Value} (r : RelO o u) (rd : RelV d d') : RelV (o.getD d) (u.getD d') := by
  cases o with
  | none => cases u with
    | none => exact rd
    | some _ => exact (show False from r).elim
  | some _ => cases u with
    | none => exact (show False from r).elim
    | some _ => exact r

/-- raw tables of the same keys -/
theorem KV.val {kvs : List (κ × V)} {vs : List (κ × Value)} (r : KV kvs vs) (k : κ) : RelO (valV kvs k) (valueAt vs k) := by
  unfold KV at r
  induction r with
  | nil => exact True.intro
  | @cons p q ps qs h t ih =>
    obtain ⟨h1, h2⟩ := h
    by_cases e : p.1 = k
    · have e' : q.1 = k := h1.symm.trans e
      have b : valueAt (q :: qs) k = some q.2 := by simp [valueAt, List.find?_cons, e']
      rw [valV_pos e, b]; exact h2
    · have e' : ¬ q.1 = k := fun z => e (h1.trans z)
      have b : valueAt (q :: qs) k = valueAt qs k := by simp [valueAt, List.find?_cons, e']
      rw [valV_neg e, b]; exact ih
theorem KV.any {kvs : List (κ × V)} {vs : List (κ × Value)} (r : KV kvs vs) (k : κ) : (kvs.any fun kv => decide (kv.1 = k)) = vs.any fun kv => decide (kv.1 = k) := by
  unfold KV at r
  induction r with
  | nil => rfl
  | cons h t ih => rw [List.any_cons, List.any_cons, ih, h.1]
theorem KV.repl {kvs : List (κ × V)} {vs : List (κ × Value)} (r : KV kvs vs) (k : κ) {y : V} {u : Value} (ry : RelV y u) :
    KV (kvs.map fun kv => if kv.1 = k then (kv.1, y) else kv) (vs.map fun kv => if kv.1 = k then (kv.1, u) else kv) := by
  unfold KV at r ⊢
  induction r with
  | nil => exact .nil
  | @cons p q ps qs h t ih =>
    rw [List.map_cons, List.map_cons]
    refine .cons ?_ ih
    obtain ⟨h1, h2⟩ := h
    by_cases e : p.1 = k
    · rw [if_pos e, if_pos (h1.symm.trans e)]; exact ⟨h1, ry⟩
    · rw [if_neg e, if_neg (fun z => e (h1.trans z))]; exact ⟨h1, h2⟩
theorem KV.put {kvs : List (κ × V)} {vs : List (κ × Value)} (r : KV kvs vs) (k : κ) {y : V} {u : Value} (ry : RelV y u) : KV (putK kvs k y) (stored vs k u) := by
  unfold putK stored
  rw [r.any k]
  by_cases e : (vs.any fun kv => decide (kv.1 = k)) = true
  · rw [if_pos e, if_pos e]; exact r.repl k ry
  · rw [if_neg e, if_neg e]; exact Paired.snoc r ⟨rfl, ry⟩
theorem KV.drop {kvs : List (κ × V)} {vs : List (κ × Value)} (r : KV kvs vs) (k : κ) : KV (dropK kvs k) (without vs k) := by
  unfold KV at r ⊢
  unfold dropK without
  induction r with
  | nil => exact .nil
  | @cons p q ps qs h t ih =>
    obtain ⟨h1, h2⟩ := h
    rw [List.filter_cons, List.filter_cons]
    by_cases e : p.1 = k
    · have a : ¬ decide (p.1 ≠ k) = true := by simp [e]
      have b : ¬ decide (q.1 ≠ k) = true := by simp [h1.symm.trans e]
      rw [if_neg a, if_neg b]; exact ih
    · have e' : ¬ q.1 = k := fun z => e (h1.trans z)
      have a : decide (p.1 ≠ k) = true := by simp [e]
      have b : decide (q.1 ≠ k) = true := by simp [e']
      rw [if_pos a, if_pos b]; exact .cons ⟨h1, h2⟩ ih
theorem KV.keys {kvs : List (κ × V)} {vs : List (κ × Value)} (r : KV kvs vs) : kvs.map (·.1) = vs.map (·.1) := by
  unfold KV at r
  induction r with
  | nil => rfl
  | cons h t ih => rw [List.map_cons, List.map_cons, ih, h.1]
theorem KV.length {kvs : List (κ × V)} {vs : List (κ × Value)} (r : KV kvs vs) : kvs.length = vs.length := Paired.length r
end


/-! ### a tracked dict, its keys ints and texts or tuples of these -/
theorem kV_is {P : Program} {w : World} {k : Key} {u : Value} (r : RelV (kV k) u) : (mixKind P w).is k u = true := by
  cases k with
  | inl i => obtain ⟨t, e⟩ := (show ∃ t, u = Value.int i t from r); subst e; exact mixKind_int P w i t
  | inr x => obtain ⟨t, e⟩ := (show ∃ t, u = Value.str x t from r); subst e; exact mixKind_str P w x t
theorem items_are {P : Program} {w : World} : ∀ {ks : List Key} {us : List Value}, Vals (ks.map kV) us → ItemsAre (mixKind P w) ks us
  | [], _, r => by rw [List.map_nil] at r; cases r; exact .nil
  | k :: ks, _, r => by
    rw [List.map_cons] at r
    cases r with
    | cons h t => exact .cons (kV_is h) (items_are t)

/-- raw entries of a dict with tuple keys -/
abbrev KT (H : Hp) : List (List Key × V) → List (List Key × Addr × Value) → Prop := Paired fun p q => p.1 = q.1 ∧ H q.2.1 = some (.tup (p.1.map kV)) ∧ RelV p.2 q.2.2
theorem KT.val {H : Hp} {kvs : List (List Key × V)} {xs : List (List Key × Addr × Value)} (r : KT H kvs xs) (k : List Key) : RelO (valV kvs k) ((atKey xs k).map (·.2)) := by
  induction r with
  | nil => exact True.intro
  | @cons p q ps qs h t ih =>
    obtain ⟨h1, _, h2⟩ := h
    by_cases e : p.1 = k
    · have e' : q.1 = k := h1.symm.trans e
      have b : atKey (q :: qs) k = some q.2 := by simp [atKey, List.find?_cons, e']
      rw [valV_pos e, b]; exact h2
    · have e' : ¬ q.1 = k := fun z => e (h1.trans z)
      have b : atKey (q :: qs) k = atKey qs k := by simp [atKey, List.find?_cons, e']
      rw [valV_neg e, b]; exact ih
theorem KT.repl {H : Hp} {kvs : List (List Key × V)} {xs : List (List Key × Addr × Value)} (r : KT H kvs xs) (k : List Key) {y : V} {u : Value} (ry : RelV y u) :
    KT H (kvs.map fun kv => if kv.1 = k then (kv.1, y) else kv) (xs.map (putAt k u)) := by
  induction r with
  | nil => exact .nil
  | @cons p q ps qs h t ih =>
    rw [List.map_cons, List.map_cons]
    refine .cons ?_ ih
    obtain ⟨h1, h2, h3⟩ := h
    unfold putAt
    by_cases e : p.1 = k
    · rw [if_pos e, if_pos (h1.symm.trans e)]; exact ⟨h1, h2, ry⟩
    · rw [if_neg e, if_neg (fun z => e (h1.trans z))]; exact ⟨h1, h2, h3⟩
theorem KT.put {H : Hp} {kvs : List (List Key × V)} {xs : List (List Key × Addr × Value)} (r : KT H kvs xs) (k : List Key) {b : Addr} {y : V} {u : Value} (hb : H b = some (.tup (k.map kV))) (ry : RelV y u) :
    KT H (putK kvs k y) (storedH xs k b u) := by
  have e : (kvs.any fun kv => decide (kv.1 = k)) = (atKey xs k).isSome := by
    rw [valV_any, (r.val k).isSome_eq, Option.isSome_map]
  unfold putK storedH
  rw [e]
  by_cases q : (atKey xs k).isSome = true
  · rw [if_pos q, if_pos q]; exact r.repl k ry
  · rw [if_neg q, if_neg q]; exact Paired.snoc r ⟨rfl, hb, ry⟩
theorem KT.keeps {H H' : Hp} {kvs : List (List Key × V)} {xs : List (List Key × Addr × Value)} (r : KT H kvs xs) (ht : ∀ b ys, H b = some (.tup ys) → H' b = some (.tup ys)) : KT H' kvs xs :=
  Paired.mapP r fun _ _ z => ⟨z.1, ht _ _ z.2.1, z.2.2⟩

section
variable {P : Program} {w : World} {H : Hp} {h : Heap} {a : Addr}
theorem rd_of {u : HO} (ok : HOk P w H h) (e : Rd H a u) : ObjOk P w H h a u := e.ok ok
theorem dk_rd {kvs : List (Key × V)} (ok : HOk P w H h) (e : Rd H a (.dK kvs)) : kvs.length ≤ sizeLine ∧ (a == sysModules) = false ∧ ∃ vs, KV kvs vs ∧ h.DictOf (mixKind P w) a vs :=
  show ObjOk P w H h a (.dK kvs) from rd_of ok e
/-- a tracked tuple of ints and texts is a key -/
theorem key_of {ks : List Key} (ok : HOk P w H h) (e : H a = some (.tup (ks.map kV))) : (tupleKind (mixKind P w)).is h ks a := by
  obtain ⟨_, its, r, o, h1, h2, n, h3⟩ := (show ObjOk P w H h a (.tup (ks.map kV)) from ok a _ e)
  exact ⟨o, its.toArray, n, h1, h2, h3, by simpa using items_are r⟩
theorem dt_rd {kvs : List (List Key × V)} (ok : HOk P w H h) (e : Rd H a (.dT kvs)) : kvs.length ≤ sizeLine ∧ (a == sysModules) = false ∧
    ∃ xs, KT H kvs xs ∧ h.DictOfH (tupleKind (mixKind P w)) a xs := by
  obtain ⟨z, y, xs, r, o, es, ep, h1, h2, h3, h4, h5⟩ := (show ObjOk P w H h a (.dT kvs) from rd_of ok e)
  refine ⟨z, y, xs, r, o, es, ep, h1, h2, h3, h4, fun x hx => ?_, h5⟩
  have all : ∀ {l : List (List Key × V)} {m : List (List Key × Addr × Value)}, KT H l m → ∀ x ∈ m, (tupleKind (mixKind P w)).is h x.1 x.2.1 := by
    intro l m q
    induction q with
    | nil => intro x hx; exact nomatch hx
    | @cons p q ps qs hq t ih =>
      intro x hx
      rcases List.mem_cons.mp hx with e | hx
      · subst e
        exact key_of ok (by rw [← hq.1]; exact hq.2.1)
      · exact ih x hx
  exact all r x hx
end

/-- what the dict at a holds at the key y -/
def DGet (H : Hp) (a : Addr) (y : V) (r : Option V) : Prop :=
  (∃ kvs k, Rd H a (.dK kvs) ∧ y = kV k ∧ r = valV kvs k) ∨ ∃ kvs k b, Rd H a (.dT kvs) ∧ y = .ref b ∧ H b = some (.tup (k.map kV)) ∧ r = valV kvs k
/-- the heap behind a[y] = v -/
def DPut (H : Hp) (a : Addr) (y v : V) (H' : Hp) : Prop :=
  (∃ kvs k, H a = some (.dK kvs) ∧ y = kV k ∧ kvs.length < sizeLine ∧ H' = upd H a (.dK (putK kvs k v))) ∨
  ∃ kvs k b, H a = some (.dT kvs) ∧ y = .ref b ∧ H b = some (.tup (k.map kV)) ∧ kvs.length < sizeLine ∧ H' = upd H a (.dT (putK kvs k v))
theorem DGet.k {H : Hp} {a : Addr} {kvs : List (Key × V)} {k : Key} (e : H a = some (.dK kvs)) : DGet H a (kV k) (valV kvs k) := .inl ⟨kvs, k, .inl e, rfl, rfl⟩
theorem DGet.t {H : Hp} {a b : Addr} {kvs : List (List Key × V)} {k : List Key} (e : H a = some (.dT kvs)) (eb : H b = some (.tup (k.map kV))) : DGet H a (.ref b) (valV kvs k) := .inr ⟨kvs, k, b, .inl e, rfl, eb, rfl⟩
theorem DPut.k {H : Hp} {a : Addr} {kvs : List (Key × V)} {k : Key} {v : V} (e : H a = some (.dK kvs)) (hl : kvs.length < sizeLine) : DPut H a (kV k) v (upd H a (.dK (putK kvs k v))) := .inl ⟨kvs, k, e, rfl, hl, rfl⟩
theorem DPut.t {H : Hp} {a b : Addr} {kvs : List (List Key × V)} {k : List Key} {v : V} (e : H a = some (.dT kvs)) (eb : H b = some (.tup (k.map kV))) (hl : kvs.length < sizeLine) :
    DPut H a (.ref b) v (upd H a (.dT (putK kvs k v))) := .inr ⟨kvs, k, b, e, rfl, eb, hl, rfl⟩


section
variable {X : Cx} {pins : List (Addr × Obj)} {σ : St} {H : Hp} {s : Shared} {a : Addr} {y v : V} {u r : Value} {o : Option V} {A : Around} {E : Value → Shared → Prop}

theorem Inv.big (I : Inv X pins σ H s) : sysModules < s.heap.objs.size := by
  have h : mainGlobals < s.heap.objs.size := (I.mod.glob.keeps I.bk).lt
  exact Nat.lt_trans (by decide) h

theorem d_notIn {Q : Value → Shared → Prop} (hu : A.units + 1 < cLine) (I : Inv X pins σ H s) (g : DGet H a y o) (ry : RelV y u) (h : ∀ s', Inv X pins σ H s' → Q (.bool (!o.isSome)) s') :
    wpAny (model X.prog X.w) A (compareOp .NotIn u (.ref a)) Q E s := by
  rcases g with ⟨kvs, k, e, ey, l⟩ | ⟨kvs, k, b, e, ey, eb, l⟩
  · subst ey
    obtain ⟨z, hd, vs, rel, dd⟩ := dk_rd I.hok e
    refine wpAny_notIn_of (kV_is ry) hd dd.mapOf ?_
    rw [← (rel.val k).isSome_eq, ← l]
    exact h _ (I.tok _)
  · subst ey
    cases (show u = Value.ref b from ry)
    obtain ⟨z, hd, xs, rel, dd⟩ := dt_rd I.hok e
    refine wpAny_notIn_heap (tupleKind_room_in1 hu) (key_of I.hok eb) hd dd ?_
    have q := (rel.val k).isSome_eq
    rw [Option.isSome_map] at q
    rw [← q, ← l]
    exact h _ (I.tok _)
end

section
variable {X : Cx} {pins : List (Addr × Obj)} {σ : St} {H : Hp} {s : Shared} {a : Addr} {kvs : List (Key × V)} {k : Key} {u : Value} {A : Around} {E : Value → Shared → Prop}
end


/-! ### readings and rules -/
/-- the element of a subscription, not a slice -/
def NoSl (i : Expr) : Prop := ∀ ov iv, subscripted i false ov iv = operate [ov, iv] (getItem ov iv)
theorem subD_of {prog : Program} {w : World} {A : Around} {E : Value → Shared → Prop} {s : Shared} {env : Env} {value slice : Expr} {pos : Pos} {T id : String} {Q : Value → Shared → Prop}
    (hl : typeLookup (.type T) "__getitem__" = pure (some (.builtin id))) (hs : NoSl slice)
    (h : wpAny (model prog w) A (eval value env) (fun o s₁ => wpAny (model prog w) A (eval slice env) (fun i s₂ => s₂.TypeIs o T ∧ wpAny (model prog w) A (getItem o i) Q E s₂) E s₁) E s) :
    wpAny (model prog w) A (eval (.Subscript value slice pos) env) Q E s := by
  refine Subscript_ (wpAny_mono h (fun o s₁ h₁ => wpAny_mono h₁ (fun i s₂ h₂ => ?_) fun _ _ x => x) fun _ _ x => x)
  obtain ⟨hT, h₂⟩ := h₂
  unfold subscriptTail
  refine wpAny_bind ?_
  rw [getitemInPython_of_ne hT.not_modules]
  refine wpAny_bind (wpAny_specialOf hT hl ?_)
  have fin : wpAny (model prog w) A (subscripted slice false o i) (fun r s₃ => wpAny (model prog w) A (letTemporaryGo value o r >>= fun _ => pure r) Q E s₃) E s₂ := by
    rw [hs o i]
    exact wpAny_operating (wpAny_mono h₂ (fun r s₃ h₃ => wpAny_bind (wpAny_letTemporaryGo (wpAny_pure h₃))) fun _ _ x => x)
  first
    | exact wpAny_pure (wpAny_bind fin)
    | exact wpAny_bind (wpAny_pure (wpAny_bind fin))
    | exact wpAny_bind fin

section
variable {X : Cx} {o i e value : Expr} {pos pos' tpos : Pos} {td ty tv : TE}
end


/-! ### displays -/
section
variable {X : Cx} {pos : Pos}
end

/-! ### methods -/
/-- a method call o.m(e) of a built-in, with one argument: what must be seen of the text -/
structure M1 (X : Cx) (o : Expr) (m : Str) (apos : Pos) (e : Expr) (cpos : Pos) : Prop where
  base : attributeBase o m X.env (eval o X.env) = eval o X.env
  few : ((backTo cpos (starEach [e] X.env)).all (fun x => !x.1) && (backToKw cpos (keywordEach [] X.env)).all (fun x => x.1.isSome)
    && decide (([e] : List Expr).length + ([] : List Keyword).length + (if ([] : List Keyword).isEmpty then 0 else 1) < 30)) = true
  line : (apos.endLine == cpos.line) = true
  trees : backTo cpos (starEach [e] X.env) = [(false, eval e X.env)]
structure M2 (X : Cx) (o : Expr) (m : Str) (apos : Pos) (e f : Expr) (cpos : Pos) : Prop where
  base : attributeBase o m X.env (eval o X.env) = eval o X.env
  few : ((backTo cpos (starEach [e, f] X.env)).all (fun x => !x.1) && (backToKw cpos (keywordEach [] X.env)).all (fun x => x.1.isSome)
    && decide (([e, f] : List Expr).length + ([] : List Keyword).length + (if ([] : List Keyword).isEmpty then 0 else 1) < 30)) = true
  line : (apos.endLine == cpos.line) = true
  trees : backTo cpos (starEach [e, f] X.env) = [(false, eval e X.env), (false, eval f X.env)]

section
variable {X : Cx} {pins : List (Addr × Obj)} {σ : St} {H : Hp} {s : Shared} {a : Addr} {y d : V} {u r : Value} {o : Option V} {A : Around} {E : Value → Shared → Prop}
end

section
variable {X : Cx} {o e f : Expr} {apos cpos : Pos} {td ty tx : TE}
end

/-! ### dict(d): a copy -/
section
variable {X : Cx} {pins : List (Addr × Obj)} {σ : St} {H : Hp} {s : Shared} {a : Addr} {kvs : List (Key × V)} {A : Around} {E : Value → Shared → Prop}
end


section
variable {X : Cx} {pins : List (Addr × Obj)} {σ : St} {H : Hp} {s : Shared} {a : Addr} {y : V} {u : Value} {A : Around} {E : Value → Shared → Prop}
end
end L2
namespace L3
open PySem PySem.Spec PyProof.Rows L2
/-! ### data: tuples (and frozen lists) are values, lists and dicts stand in the heap -/
abbrev St := L2.St
inductive D where
  | non | bl (b : Bool) | int (i : Int) | str (x : Str) | tup (ds : List D) | fl (ds : List D) | ref (a : Addr) | ty (n : String) | ktup (ds : List D)

/-- a list that nobody changes: the script, or one of the module's -/
def FzL (K : PySem.W.Frag) (H : Hp) (a : Addr) (xs : List V) : Prop :=
  (∃ o, H a = some (.frz o (.lst xs))) ∨
    ∃ (o : Obj) (its : Array Value) (n : Nat), K.lookup a = some o ∧ o.cls = .type "list" ∧ o.dict = none ∧ o.data = .seq its n ∧ its.size ≤ sizeLine ∧ Vals xs its.toList
theorem FzL.sq {K : PySem.W.Frag} {H : Hp} {a : Addr} {xs : List V} (h : FzL K H a xs) : SqL K H a xs := by
  rcases h with ⟨o, h⟩ | h
  · exact .inl (.inr ⟨o, h⟩)
  · exact .inr h

/-- a tuple of the module's -/
def KTp (K : PySem.W.Frag) (a : Addr) (xs : List V) : Prop := ∃ (o : Obj) (its : Array Value) (n : Nat), K.lookup a = some o ∧ o.cls = .type "tuple" ∧ o.data = .seq its n ∧ its.size ≤ sizeLine ∧ Vals xs its.toList
theorem KTp.sq {K : PySem.W.Frag} {H : Hp} {a : Addr} {xs : List V} (h : KTp K a xs) : SqT K H a xs := .inr h

mutual
inductive Rep (K : PySem.W.Frag) (H : Hp) : D → V → Prop
  | non : Rep K H .non .non
  | bl (b : Bool) : Rep K H (.bl b) (.bl b)
  | int (i : Int) : Rep K H (.int i) (.int i)
  | str (x : Str) : Rep K H (.str x) (.str x)
  | ty (n : String) : Rep K H (.ty n) (.ty n)
  | ref (a : Addr) : Rep K H (.ref a) (.ref a)
  | tup {a : Addr} {xs : List V} {ds : List D} : H a = some (.tup xs) → RepL K H ds xs → Rep K H (.tup ds) (.ref a)
  | fl {a : Addr} {xs : List V} {ds : List D} : FzL K H a xs → RepL K H ds xs → Rep K H (.fl ds) (.ref a)
  | ktup {a : Addr} {xs : List V} {ds : List D} : KTp K a xs → RepL K H ds xs → Rep K H (.ktup ds) (.ref a)
inductive RepL (K : PySem.W.Frag) (H : Hp) : List D → List V → Prop
  | nil : RepL K H [] []
  | cons {d : D} {v : V} {ds : List D} {vs : List V} : Rep K H d v → RepL K H ds vs → RepL K H (d :: ds) (v :: vs)
end

/-- tuples and frozen things are kept -/
structure TK (H H' : Hp) : Prop where
  tup : ∀ a xs, H a = some (.tup xs) → H' a = some (.tup xs)
  frz : ∀ a o u, H a = some (.frz o u) → H' a = some (.frz o u)
theorem TK.refl {H : Hp} : TK H H := ⟨fun _ _ h => h, fun _ _ _ h => h⟩
theorem TK.trans {H H1 H2 : Hp} (a : TK H H1) (b : TK H1 H2) : TK H H2 := ⟨fun c xs h => b.tup c xs (a.tup c xs h), fun c o u h => b.frz c o u (a.frz c o u h)⟩
theorem TK.fresh {H : Hp} {p : Addr} {o : HO} (n : H p = none) : TK H (upd H p o) :=
  ⟨fun a xs h => by rw [upd_ne (ne_of_none h n)]; exact h, fun a o' u h => by rw [upd_ne (ne_of_none h n)]; exact h⟩
theorem TK.lst {H : Hp} {p : Addr} {o : HO} {xs : List V} (n : H p = some (.lst xs)) : TK H (upd H p o) :=
  ⟨fun a ys h => by rw [upd_ne (ne_of h n (by intro z; cases z))]; exact h, fun a o' u h => by rw [upd_ne (ne_of h n (by intro z; cases z))]; exact h⟩
theorem TK.dT {H : Hp} {p : Addr} {o : HO} {xs : List (List Key × V)} (n : H p = some (.dT xs)) : TK H (upd H p o) :=
  ⟨fun a ys h => by rw [upd_ne (ne_of h n (by intro z; cases z))]; exact h, fun a o' u h => by rw [upd_ne (ne_of h n (by intro z; cases z))]; exact h⟩
theorem TK.ins {H : Hp} {p C dx : Addr} {o : HO} {xs : List (Str × V)} (n : H p = some (.ins C dx xs)) : TK H (upd H p o) :=
  ⟨fun a ys h => by rw [upd_ne (ne_of h n (by intro z; cases z))]; exact h, fun a o' u h => by rw [upd_ne (ne_of h n (by intro z; cases z))]; exact h⟩
theorem TK.sqT {K : PySem.W.Frag} {H H' : Hp} (t : TK H H') {a : Addr} {xs : List V} (h : SqT K H a xs) : SqT K H' a xs := by
  rcases h with (h | ⟨o, h⟩) | h
  · exact .inl (.inl (t.tup _ _ h))
  · exact .inl (.inr ⟨o, t.frz _ _ _ h⟩)
  · exact .inr h
theorem TK.fzL {K : PySem.W.Frag} {H H' : Hp} (t : TK H H') {a : Addr} {xs : List V} (h : FzL K H a xs) : FzL K H' a xs := by
  rcases h with ⟨o, h⟩ | h
  · exact .inl ⟨o, t.frz _ _ _ h⟩
  · exact .inr h
mutual
theorem Rep.mono {K : PySem.W.Frag} {H H' : Hp} (t : TK H H') : ∀ {d : D} {v : V}, Rep K H d v → Rep K H' d v
  | _, _, .non => .non
  | _, _, .bl b => .bl b
  | _, _, .int i => .int i
  | _, _, .str x => .str x
  | _, _, .ty n => .ty n
  | _, _, .ref a => .ref a
  | _, _, .tup h r => .tup (t.tup _ _ h) (RepL.mono t r)
  | _, _, .fl h r => .fl (t.fzL h) (RepL.mono t r)
  | _, _, .ktup h r => .ktup h (RepL.mono t r)
theorem RepL.mono {K : PySem.W.Frag} {H H' : Hp} (t : TK H H') : ∀ {ds : List D} {vs : List V}, RepL K H ds vs → RepL K H' ds vs
  | _, _, .nil => .nil
  | _, _, .cons r s => .cons (Rep.mono t r) (RepL.mono t s)
end
section
variable {K : PySem.W.Frag} {H : Hp}
theorem RepL.length : ∀ {ds : List D} {vs : List V}, RepL K H ds vs → ds.length = vs.length
  | _, _, .nil => rfl
  | _, _, .cons _ s => by simp [RepL.length s]
theorem RepL.get : ∀ {ds : List D} {vs : List V} {i : Nat} {d : D}, RepL K H ds vs → ds[i]? = some d → ∃ v, vs[i]? = some v ∧ Rep K H d v
  | _, _, _, _, .nil, e => by simp at e
  | _, _, 0, _, .cons r _, e => by simp at e; subst e; exact ⟨_, rfl, r⟩
  | _, _, i + 1, d, .cons _ t, e => by
    obtain ⟨u, h1, h2⟩ := RepL.get (i := i) (d := d) t (by simpa using e)
    exact ⟨u, by simpa using h1, h2⟩
theorem RepL.getV : ∀ {ds : List D} {vs : List V} {i : Nat} {v : V}, RepL K H ds vs → vs[i]? = some v → ∃ d, ds[i]? = some d ∧ Rep K H d v
  | _, _, _, _, .nil, e => by simp at e
  | _, _, 0, _, .cons r _, e => by simp at e; subst e; exact ⟨_, rfl, r⟩
  | _, _, i + 1, v, .cons _ t, e => by
    obtain ⟨u, h1, h2⟩ := RepL.getV (i := i) (v := v) t (by simpa using e)
    exact ⟨u, by simpa using h1, h2⟩
theorem RepL.append : ∀ {ds es : List D} {vs us : List V}, RepL K H ds vs → RepL K H es us → RepL K H (ds ++ es) (vs ++ us)
  | _, _, _, _, .nil, s => s
  | _, _, _, _, .cons r t, s => .cons r (RepL.append t s)
theorem RepL.take : ∀ {ds : List D} {vs : List V} (n : Nat), RepL K H ds vs → RepL K H (ds.take n) (vs.take n)
  | _, _, 0, _ => .nil
  | _, _, _ + 1, .nil => .nil
  | _, _, n + 1, .cons r t => .cons r (RepL.take n t)
theorem RepL.drop : ∀ {ds : List D} {vs : List V} (n : Nat), RepL K H ds vs → RepL K H (ds.drop n) (vs.drop n)
  | _, _, 0, r => r
  | _, _, _ + 1, .nil => .nil
  | _, _, n + 1, .cons _ t => RepL.drop n t
theorem RepL.snoc {ds : List D} {vs : List V} {d : D} {v : V} (r : RepL K H ds vs) (s : Rep K H d v) : RepL K H (ds ++ [d]) (vs ++ [v]) := r.append (.cons s .nil)
theorem RepL.dropLast {ds : List D} {vs : List V} (r : RepL K H ds vs) : RepL K H ds.dropLast vs.dropLast := by
  rw [List.dropLast_eq_take, List.dropLast_eq_take, ← r.length]; exact r.take _
theorem RepL.ints : ∀ (ns : List Int), RepL K H (ns.map D.int) (ns.map V.int)
  | [] => .nil
  | n :: ns => .cons (.int n) (RepL.ints ns)
/-- ints are what they are -/
theorem RepL.ints_inv : ∀ {ns : List Int} {vs : List V}, RepL K H (ns.map D.int) vs → vs = ns.map V.int
  | [], _, .nil => rfl
  | _ :: ns, _, .cons (.int _) t => by rw [List.map_cons, RepL.ints_inv (ns := ns) t]
end

/-! ### the heap -/
inductive O3 where
  | lst (ds : List D)
  /-- a dict keyed by tuples of ints and texts -/
  | dic (kvs : List (List Key × D))
  /-- an instance of the class of that name -/
  | ins (c : Str) (fs : List (Str × D))
  /-- an exception of the class of that name -/
  | exc (c : Str)
abbrev Hp3 := Addr → Option O3
def upd3 (H : Hp3) (a : Addr) (o : O3) : Hp3 := fun b => if b = a then some o else H b
theorem upd3_same {H : Hp3} {a : Addr} {o : O3} : upd3 H a o a = some o := by unfold upd3; rw [if_pos rfl]
theorem upd3_ne {H : Hp3} {a b : Addr} {o : O3} (h : b ≠ a) : upd3 H a o b = H b := by unfold upd3; rw [if_neg h]
theorem upd3_upd3 {H : Hp3} {a : Addr} {o u : O3} : upd3 (upd3 H a o) a u = upd3 H a u := by
  funext b; unfold upd3; split <;> rfl
theorem ne3 {H : Hp3} {a b : Addr} {o : O3} (h : H a = some o) (h' : H b = none) : a ≠ b := by
  intro e; subst e; rw [h] at h'; cases h'
def excO (a C : Addr) : HO := .ext fun h => ∃ o vs, h.get? a = some o ∧ o.cls = .ref C ∧ o.data = .fields vs
def OR (K : PySem.W.Frag) (H : Hp) (a : Addr) : O3 → Prop
  | .lst ds => ∃ xs, H a = some (.lst xs) ∧ RepL K H ds xs
  | .dic kvs => ∃ ks, H a = some (.dT ks) ∧ Paired (fun (p : List Key × D) (q : List Key × V) => p.1 = q.1 ∧ Rep K H p.2 q.2) kvs ks
  | .ins c fs => ∃ C dx xs, PySem.W.nsIn K mainGlobals c = some (some (.ref C)) ∧ H a = some (.ins C dx xs) ∧ Paired (fun (p : Str × D) (q : Str × V) => p.1 = q.1 ∧ Rep K H p.2 q.2) fs xs
  | .exc c => ∃ C, PySem.W.nsIn K mainGlobals c = some (some (.ref C)) ∧ H a = some (excO a C)
def HR (K : PySem.W.Frag) (H3 : Hp3) (H : Hp) : Prop := ∀ a o, H3 a = some o → OR K H a o
/-- part of a heap -/
def Sub3 (H H' : Hp3) : Prop := ∀ a o, H a = some o → H' a = some o
theorem Sub3.refl {H : Hp3} : Sub3 H H := fun _ _ h => h
theorem Sub3.trans {H H1 H2 : Hp3} (a : Sub3 H H1) (b : Sub3 H1 H2) : Sub3 H H2 := fun c o h => b c o (a c o h)
theorem Sub3.fresh {H : Hp3} {p : Addr} {o : O3} (n : H p = none) : Sub3 H (upd3 H p o) := fun a u h => by rw [upd3_ne (ne3 h n)]; exact h
theorem Sub3.upd {H H' : Hp3} {p : Addr} {o : O3} (s : Sub3 H H') (n : H p = none) : Sub3 H (upd3 H' p o) := fun a u h => by rw [upd3_ne (ne3 h n)]; exact s a u h
section
variable {K : PySem.W.Frag} {H H' : Hp} {H3 H3' : Hp3}
theorem HR.sub (h : HR K H3' H) (s : Sub3 H3 H3') : HR K H3 H := fun a o e => h a o (s a o e)
theorem HR.fresh (h : HR K H3 H) {p : Addr} (n : H p = none) : H3 p = none := by
  cases e : H3 p with
  | none => rfl
  | some o =>
    cases o with
    | lst ds => obtain ⟨xs, q, _⟩ := h p _ e; rw [n] at q; cases q
    | dic ks => obtain ⟨xs, q, _⟩ := h p _ e; rw [n] at q; cases q
    | ins c fs => obtain ⟨C, dx, xs, _, q, _⟩ := h p _ e; rw [n] at q; cases q
    | exc c => obtain ⟨C, _, q⟩ := h p _ e; rw [n] at q; cases q
theorem OR.keep {a : Addr} {o : O3} (x : OR K H a o) (t : TK H H') (e : H' a = H a) : OR K H' a o := by
  cases o with
  | lst ds => obtain ⟨xs, q, r⟩ := x; exact ⟨xs, e.trans q, r.mono t⟩
  | dic ks => obtain ⟨xs, q, r⟩ := x; exact ⟨xs, e.trans q, Paired.mapP r fun _ _ z => ⟨z.1, z.2.mono t⟩⟩
  | ins c fs => obtain ⟨C, dx, xs, g, q, r⟩ := x; exact ⟨C, dx, xs, g, e.trans q, Paired.mapP r fun _ _ z => ⟨z.1, z.2.mono t⟩⟩
  | exc c => obtain ⟨C, g, q⟩ := x; exact ⟨C, g, e.trans q⟩
theorem HR.set (h : HR K H3 H) {p : Addr} {o : HO} {o3 : O3} (t : TK H (upd H p o)) (new : OR K (upd H p o) p o3) : HR K (upd3 H3 p o3) (upd H p o) := fun b u e => by
  by_cases hb : b = p
  · subst hb; rw [upd3_same] at e; cases e; exact new
  · rw [upd3_ne hb] at e; exact (h b u e).keep t (upd_ne hb)
theorem HR.setL (h : HR K H3 H) {p : Addr} {xs : List V} {ds : List D} (t : TK H (upd H p (.lst xs))) (r : RepL K (upd H p (.lst xs)) ds xs) : HR K (upd3 H3 p (.lst ds)) (upd H p (.lst xs)) := h.set (o3 := .lst ds) t ⟨xs, upd_same, r⟩
theorem HR.tup (h : HR K H3 H) {p : Addr} {xs : List V} (n : H p = none) : HR K H3 (upd H p (.tup xs)) := fun b u e => by
  have hb : b ≠ p := ne3 e (h.fresh n)
  exact (h b u e).keep (TK.fresh n) (upd_ne hb)
end

/-! ### states, readings -/
abbrev St3 := List (Option D)
abbrev VK3 := D → Hp3 → Prop
abbrev TE3 := St3 → Hp3 → VK3 → Prop
abbrev TT3 := St3 → Hp3 → (Bool → Hp3 → Prop) → Prop
abbrev TA3 := St3 → Hp3 → (List D → Hp3 → Prop) → Prop
structure Ends3 where
  nx : St3 → Hp3 → Prop
  rt : VK3
  bk : St3 → Hp3 → Prop := fun _ _ => False
  ct : St3 → Hp3 → Prop := fun _ _ => False
abbrev TS3 := Ends3 → St3 → Hp3 → Prop
structure SR (K : PySem.W.Frag) (H : Hp) (σ3 : St3) (σ : St) : Prop where
  len : σ3.length = σ.length
  get : ∀ (i : Nat) (d : D), σ3[i]? = some (some d) → ∃ v, σ[i]? = some (some v) ∧ Rep K H d v
theorem SR.mono {K : PySem.W.Frag} {H H' : Hp} {σ3 : St3} {σ : St} (s : SR K H σ3 σ) (t : TK H H') : SR K H' σ3 σ :=
  ⟨s.len, fun i d e => let ⟨v, h1, h2⟩ := s.get i d e; ⟨v, h1, h2.mono t⟩⟩
theorem SR.set {K : PySem.W.Frag} {H : Hp} {σ3 : St3} {σ : St} (s : SR K H σ3 σ) (i : Nat) {d : D} {v : V} (r : Rep K H d v) : SR K H (σ3.set i (some d)) (σ.set i (some v)) := by
  refine ⟨by simp [s.len], fun j e h => ?_⟩
  by_cases hj : j = i
  · subst hj
    by_cases hl : j < σ3.length
    · rw [List.getElem?_set_self hl] at h
      cases h
      exact ⟨v, by rw [List.getElem?_set_self (by rw [← s.len]; exact hl)], r⟩
    · rw [List.getElem?_eq_none (by simpa using hl)] at h; cases h
  · rw [List.getElem?_set_ne (Ne.symm hj)] at h
    obtain ⟨u, h1, h2⟩ := s.get j e h
    exact ⟨u, by rw [List.getElem?_set_ne (Ne.symm hj)]; exact h1, h2⟩
def KE (K : PySem.W.Frag) (H : Hp) (Q3 : VK3) (Q : VK) : Prop := ∀ d v H3' H', TK H H' → HR K H3' H' → Rep K H' d v → Q3 d H3' → Q v H'
def KT (K : PySem.W.Frag) (H : Hp) (Q3 : Bool → Hp3 → Prop) (Q : Bool → Hp → Prop) : Prop := ∀ b H3' H', TK H H' → HR K H3' H' → Q3 b H3' → Q b H'
def KA (K : PySem.W.Frag) (H : Hp) (Q3 : List D → Hp3 → Prop) (Q : List V → Hp → Prop) : Prop := ∀ ds vs H3' H', TK H H' → HR K H3' H' → RepL K H' ds vs → Q3 ds H3' → Q vs H'
def KN (K : PySem.W.Frag) (H : Hp) (Q3 : St3 → Hp3 → Prop) (Q : St → Hp → Prop) : Prop := ∀ σ3 σ H3' H', TK H H' → SR K H' σ3 σ → HR K H3' H' → Q3 σ3 H3' → Q σ H'
structure KS (K : PySem.W.Frag) (H : Hp) (D3 : Ends3) (D : Ends) : Prop where
  nx : KN K H D3.nx D.nx
  rt : KE K H D3.rt D.rt
  bk : KN K H D3.bk D.bk
  ct : KN K H D3.ct D.ct
theorem KE.mono {K : PySem.W.Frag} {H H1 : Hp} {Q3 : VK3} {Q : VK} (k : KE K H Q3 Q) (t : TK H H1) : KE K H1 Q3 Q := fun d v H3 H' t' => k d v H3 H' (t.trans t')
theorem KN.mono {K : PySem.W.Frag} {H H1 : Hp} {Q3 : St3 → Hp3 → Prop} {Q : St → Hp → Prop} (k : KN K H Q3 Q) (t : TK H H1) : KN K H1 Q3 Q := fun d v H3 H' t' => k d v H3 H' (t.trans t')
theorem KS.mono {K : PySem.W.Frag} {H H1 : Hp} {D3 : Ends3} {D : Ends} (k : KS K H D3 D) (t : TK H H1) : KS K H1 D3 D := ⟨k.nx.mono t, k.rt.mono t, k.bk.mono t, k.ct.mono t⟩
def liftE (K : PySem.W.Frag) (t : TE3) : TE := fun σ H Q => ∃ σ3 H3 Q3, SR K H σ3 σ ∧ HR K H3 H ∧ t σ3 H3 Q3 ∧ KE K H Q3 Q
def liftT (K : PySem.W.Frag) (t : TT3) : TT := fun σ H Q => ∃ σ3 H3 Q3, SR K H σ3 σ ∧ HR K H3 H ∧ t σ3 H3 Q3 ∧ KT K H Q3 Q
def liftA (K : PySem.W.Frag) (t : TA3) : TA := fun σ H Q => ∃ σ3 H3 Q3, SR K H σ3 σ ∧ HR K H3 H ∧ t σ3 H3 Q3 ∧ KA K H Q3 Q
def liftS (K : PySem.W.Frag) (t : TS3) : TS := fun D σ H => ∃ σ3 H3 D3, SR K H σ3 σ ∧ HR K H3 H ∧ t D3 σ3 H3 ∧ KS K H D3 D
def PE3 (X : Cx) (e : Expr) (t : TE3) : Prop := PE X e (liftE X.K t)
def PT3 (X : Cx) (e : Expr) (t : TT3) : Prop := PT X e (liftT X.K t)
def PW3 (X : Cx) (e : Expr) (t : TT3) : Prop := PW X e (liftT X.K t)
def PA3 (X : Cx) (es : List Expr) (t : TA3) : Prop := PA X es (liftA X.K t)
def PS3 (X : Cx) (st : Stmt) (t : TS3) : Prop := PS X st (liftS X.K t)
def PSs3 (X : Cx) (st : List Stmt) (t : TS3) : Prop := PSs X st (liftS X.K t)
section
variable {X : Cx} {e : Expr} {es : List Expr} {st : Stmt} {sts : List Stmt}
theorem pe_imp {t t' : TE} (h : PE X e t) (i : ∀ σ H Q, t' σ H Q → t σ H Q) : PE X e t' := fun pins s σ H Q I hw => h pins s σ H Q I (i σ H Q hw)
theorem pt_imp {t t' : TT} (h : PT X e t) (i : ∀ σ H Q, t' σ H Q → t σ H Q) : PT X e t' := fun pins s σ H Q I hw => h pins s σ H Q I (i σ H Q hw)
theorem pw_imp {t t' : TT} (h : PW X e t) (i : ∀ σ H Q, t' σ H Q → t σ H Q) : PW X e t' := fun wh pins s σ H Q I hw => h wh pins s σ H Q I (i σ H Q hw)
theorem pa_imp {t t' : TA} (h : PA X es t) (i : ∀ σ H Q, t' σ H Q → t σ H Q) : PA X es t' := fun pos pins s σ H Q I hw => h pos pins s σ H Q I (i σ H Q hw)
theorem ps_imp {t t' : TS} (h : PS X st t) (i : ∀ D σ H, t' D σ H → t D σ H) : PS X st t' := fun pins s σ H D I hw => h pins s σ H D I (i D σ H hw)
theorem pss_imp {t t' : TS} (h : PSs X sts t) (i : ∀ D σ H, t' D σ H → t D σ H) : PSs X sts t' := fun pins s σ H D I hw => h pins s σ H D I (i D σ H hw)
end
end L3

namespace L3
open PySem PySem.Spec PyProof.Rows L2
abbrev R3 := D → D → Hp3 → VK3 → Prop
def lift2 (K : PySem.W.Frag) (r : R3) : R2 := fun x y H Q => ∃ dx dy H3 Q3, HR K H3 H ∧ Rep K H dx x ∧ Rep K H dy y ∧ r dx dy H3 Q3 ∧ KE K H Q3 Q
def lift1 (K : PySem.W.Frag) (r : D → Hp3 → VK3 → Prop) : V → Hp → VK → Prop := fun x H Q => ∃ dx H3 Q3, HR K H3 H ∧ Rep K H dx x ∧ r dx H3 Q3 ∧ KE K H Q3 Q
def liftC (K : PySem.W.Frag) (r : List D → Hp3 → VK3 → Prop) : List V → Hp → VK → Prop := fun xs H Q => ∃ ds H3 Q3, HR K H3 H ∧ RepL K H ds xs ∧ r ds H3 Q3 ∧ KE K H Q3 Q
def liftM (K : PySem.W.Frag) (r : D → List D → Hp3 → VK3 → Prop) : V → List V → Hp → VK → Prop := fun x xs H Q => ∃ d ds H3 Q3, HR K H3 H ∧ Rep K H d x ∧ RepL K H ds xs ∧ r d ds H3 Q3 ∧ KE K H Q3 Q

section
variable {X : Cx} {a b c e : Expr} {es : List Expr} {pos : Pos} {ta tb tc te : TE3} {tr : TA3} {tA tB : TT3}
/-! ### names, constants -/
def v3 (i : Nat) : TE3 := fun σ H Q => match σ[i]? with
  | some (some d) => Q d H
  | _ => False
def c3 (d : D) : TE3 := fun _ H Q => Q d H
theorem p3_var (i : Nat) {x : Str} (hN : X.N[i]? = some x := by rfl) (hv : Vis X.env.scope x := by first | exact Or.inl rfl | exact Or.inr (Or.inl rfl) | exact Or.inr (Or.inr rfl)) (hd : (x == ("__debug__" : Str)) = false := by decide)
    (hcd : (x == ("__classdict__" : Str)) = false := by decide) : PE3 X (.Name x pos) (v3 i) :=
  pe_imp (pv i hN hv hd hcd) fun σ H Q ⟨σ3, H3, Q3, sr, hr, t, k⟩ => by
    unfold v3 at t
    split at t
    · rename_i d h
      obtain ⟨v, h1, r⟩ := sr.get i d h
      exact ⟨v, h1, k d v H3 H TK.refl hr r t⟩
    · exact t.elim
theorem p3_int {i : Int} {j : Nat} : PE3 X (.Constant (.int i) j pos) (c3 (.int i)) := pe_imp pe_int fun _ _ _ ⟨_, _, _, _, hr, t, k⟩ => k _ _ _ _ TK.refl hr (.int i) t
theorem p3_bl {i : Bool} {j : Nat} : PE3 X (.Constant (.bool i) j pos) (c3 (.bl i)) := pe_imp pe_bl fun _ _ _ ⟨_, _, _, _, hr, t, k⟩ => k _ _ _ _ TK.refl hr (.bl i) t
theorem p3_str {i : Str} {j : Nat} : PE3 X (.Constant (.str i) j pos) (c3 (.str i)) := pe_imp pe_str fun _ _ _ ⟨_, _, _, _, hr, t, k⟩ => k _ _ _ _ TK.refl hr (.str i) t
/-- a built-in type by its name -/
theorem p3_ty {x : Str} {T : String} (hg : Gl X x) (hm : X.mg x = none) (hv : bootBuiltins x = some (.type T)) (hn : x ≠ "__name__" := by decide) (hd : (x == ("__debug__" : Str)) = false := by decide) : PE3 X (.Name x pos) (c3 (.ty T)) :=
  pe_imp (pe_bltn (v := .ty T) hg hm hv rfl hn hd) fun _ _ _ ⟨_, _, _, _, hr, t, k⟩ => k _ _ _ _ TK.refl hr (.ty T) t
/-! ### two places -/
def o3 (r : R3) (ta tb : TE3) : TE3 := fun σ H Q => ta σ H fun x H1 => tb σ H1 fun y H2 => r x y H2 Q
theorem lift_bin {K : PySem.W.Frag} {r : R3} {σ : St} {H : Hp} {Q : VK} (h : liftE K (o3 r ta tb) σ H Q) : tOp (lift2 K r) (liftE K ta) (liftE K tb) σ H Q := by
  obtain ⟨σ3, H3, Q3, sr, hr, t, k⟩ := h
  exact ⟨σ3, H3, _, sr, hr, t, fun x v H3a Ha tka hra rx qa => ⟨σ3, H3a, _, sr.mono tka, hra, qa, fun y u H3b Hb tkb hrb ry qb =>
    ⟨x, y, H3b, Q3, hrb, rx.mono tkb, ry, qb, k.mono (tka.trans tkb)⟩⟩⟩
theorem p3_op {op : Operator} {r : R3} (ho : OpR X (binaryOp op) (lift2 X.K r)) (ha : PE3 X a ta) (hb : PE3 X b tb) : PE3 X (.BinOp a op b pos) (o3 r ta tb) :=
  pe_imp (pe_op ho ha hb) fun _ _ _ h => lift_bin h
theorem p3_cmp {op : CmpOp} {r : R3} (ho : OpR X (compareOp op) (lift2 X.K r)) (ha : PE3 X a ta) (hb : PE3 X b tb) (hm : behindInMarks op b = false := by first | exact nomark _ | with_unfolding_all rfl) : PE3 X (.Compare a [op] [b] pos) (o3 r ta tb) :=
  pe_imp (pe_cmpR ho ha hb hm) fun _ _ _ h => lift_bin h
theorem p3_ix {r : R3} (hr : IxR X (lift2 X.K r)) (ha : PE3 X a ta) (hb : PE3 X b tb) (hs : PlainIx b := by exact fun _ _ => rfl) : PE3 X (.Subscript a b pos) (o3 r ta tb) :=
  pe_imp (pe_ix hr ha hb hs) fun _ _ _ h => lift_bin h
def u3 (r : D → Hp3 → VK3 → Prop) (ta : TE3) : TE3 := fun σ H Q => ta σ H fun x H1 => r x H1 Q
theorem p3_un {op : UnaryOp} {r : D → Hp3 → VK3 → Prop} (ho : UnR X (unaryOp op) (lift1 X.K r)) (ha : PE3 X a ta) : PE3 X (.UnaryOp op a pos) (u3 r ta) :=
  pe_imp (pe_un ho ha) fun _ _ _ ⟨σ3, H3, Q3, sr, hr, t, k⟩ => ⟨σ3, H3, _, sr, hr, t, fun x v H3a Ha tka hra rx qa => ⟨x, H3a, Q3, hra, rx, qa, k.mono tka⟩⟩

/-! ### tests -/
def bt (d : D) (H : Hp3) (Q : Bool → Hp3 → Prop) : Prop := match d with
  | .bl k => Q k H
  | _ => False
theorem ke_test {K : PySem.W.Frag} {H : Hp} {Q3 : Bool → Hp3 → Prop} {Q : Bool → Hp → Prop} (k : KT K H Q3 Q) : KE K H (fun d H1 => bt d H1 Q3) (fun x H' => ∃ c, x = .bl c ∧ Q c H') := fun d v H3' H' tk hr rep q => by
  cases rep with
  | bl b => exact ⟨b, rfl, k _ _ _ tk hr q⟩
  | _ => exact q.elim
def ts3 (t : TE3) : TT3 := fun σ H Q => t σ H fun d H1 => bt d H1 Q
theorem p3_tcmp {op : CmpOp} {r : R3} (ho : OpR X (compareOp op) (lift2 X.K r)) (ha : PE3 X a ta) (hb : PE3 X b tb) (hm : behindInMarks op b = false := by first | exact nomark _ | with_unfolding_all rfl) : PT3 X (.Compare a [op] [b] pos) (ts3 (o3 r ta tb)) :=
  pt_imp (pt_cmpR ho ha hb hm) fun _ _ _ ⟨σ3, H3, Q3, sr, hr, t, k⟩ => lift_bin ⟨σ3, H3, _, sr, hr, t, ke_test k⟩
/-- a value that is a bool, as a test -/
theorem p3_tval (h : PE3 X e te) (he : ∀ whole, isTrue e X.env whole = (do let v ← whole; standAt e.pos; holding [v] (truthy v)) := by intro _; rfl) : PT3 X e (ts3 te) :=
  pt_imp (pt_val h he) fun _ _ _ ⟨σ3, H3, Q3, sr, hr, t, k⟩ => ⟨σ3, H3, _, sr, hr, t, ke_test k⟩
def an3 (t u : TT3) : TT3 := fun σ H Q => t σ H fun c H1 => if c = true then u σ H1 Q else Q false H1
def or3 (t u : TT3) : TT3 := fun σ H Q => t σ H fun c H1 => if c = true then Q true H1 else u σ H1 Q
def no3 (t : TT3) : TT3 := fun σ H Q => t σ H fun c H1 => Q (!c) H1
variable {rest : List Expr}
theorem KT.mono {K : PySem.W.Frag} {H H1 : Hp} {Q3 : Bool → Hp3 → Prop} {Q : Bool → Hp → Prop} (k : KT K H Q3 Q) (t : TK H H1) : KT K H1 Q3 Q := fun d H3 H' t' => k d H3 H' (t.trans t')
theorem p3_wand1 (ha : PT3 X a tA) : PW3 X (.BoolOp .And [a] pos) tA := pw_and1 ha
theorem p3_wor1 (ha : PT3 X a tA) : PW3 X (.BoolOp .Or [a] pos) tA := pw_or1 ha
theorem p3_wand (ha : PT3 X a tA) (hb : PW3 X (.BoolOp .And (b :: rest) pos) tB) : PW3 X (.BoolOp .And (a :: b :: rest) pos) (an3 tA tB) :=
  pw_imp (pw_and ha hb) fun _ _ _ ⟨σ3, H3, Q3, sr, hr, t, k⟩ => ⟨σ3, H3, _, sr, hr, t, fun c H3a Ha tka hra qa => by
    cases c with
    | true => exact ⟨σ3, H3a, Q3, sr.mono tka, hra, qa, k.mono tka⟩
    | false => exact k _ _ _ tka hra qa⟩
theorem p3_wor (ha : PT3 X a tA) (hb : PW3 X (.BoolOp .Or (b :: rest) pos) tB) : PW3 X (.BoolOp .Or (a :: b :: rest) pos) (or3 tA tB) :=
  pw_imp (pw_or ha hb) fun _ _ _ ⟨σ3, H3, Q3, sr, hr, t, k⟩ => ⟨σ3, H3, _, sr, hr, t, fun c H3a Ha tka hra qa => by
    cases c with
    | false => exact ⟨σ3, H3a, Q3, sr.mono tka, hra, qa, k.mono tka⟩
    | true => exact k _ _ _ tka hra qa⟩
theorem p3_tw (h : PW3 X e tA) : PT3 X e tA := h.pt
theorem p3_tnot (ha : PT3 X a tA) : PT3 X (.UnaryOp .Not a pos) (no3 tA) :=
  pt_imp (pt_not ha) fun _ _ _ ⟨σ3, H3, Q3, sr, hr, t, k⟩ => ⟨σ3, H3, _, sr, hr, t, fun c H3a Ha tka hra qa => k _ _ _ tka hra qa⟩
/-! the same as values -/
def av3 (ta tb : TE3) : TE3 := fun σ H Q => ta σ H fun x H1 => match x with
  | .bl c => if c = true then tb σ H1 Q else Q (.bl false) H1
  | _ => False
def ov3 (ta tb : TE3) : TE3 := fun σ H Q => ta σ H fun x H1 => match x with
  | .bl c => if c = true then Q (.bl true) H1 else tb σ H1 Q
  | _ => False
def nv3 (ta : TE3) : TE3 := fun σ H Q => ta σ H fun x H1 => match x with
  | .bl c => Q (.bl (!c)) H1
  | _ => False
theorem p3_one {op : BoolOp} (h : PE3 X a ta) : PE3 X (.BoolOp op [a] pos) ta := pe_one h
theorem p3_and (ha : PE3 X a ta) (hb : PE3 X (.BoolOp .And (b :: rest) pos) tb) : PE3 X (.BoolOp .And (a :: b :: rest) pos) (av3 ta tb) :=
  pe_imp (pe_and ha hb) fun _ _ _ ⟨σ3, H3, Q3, sr, hr, t, k⟩ => ⟨σ3, H3, _, sr, hr, t, fun x v H3a Ha tka hra rx qa => by
    cases rx with
    | bl c =>
      refine ⟨c, rfl, ?_⟩
      cases c with
      | true => exact ⟨σ3, H3a, Q3, sr.mono tka, hra, qa, k.mono tka⟩
      | false => exact k _ _ _ _ tka hra (.bl false) qa
    | _ => exact qa.elim⟩
theorem p3_not (ha : PE3 X a ta) : PE3 X (.UnaryOp .Not a pos) (nv3 ta) :=
  pe_imp (pe_not ha) fun _ _ _ ⟨σ3, H3, Q3, sr, hr, t, k⟩ => ⟨σ3, H3, _, sr, hr, t, fun x v H3a Ha tka hra rx qa => by
    cases rx with
    | bl c => exact ⟨c, rfl, k _ _ _ _ tka hra (.bl _) qa⟩
    | _ => exact qa.elim⟩
def if3 (t : TT3) (ta tb : TE3) : TE3 := fun σ H Q => t σ H fun c H1 => if c = true then ta σ H1 Q else tb σ H1 Q
/-! ### argument lists, tuples, lists -/
def nil3 : TA3 := fun _ H Q => Q [] H
def cons3 (ta : TE3) (tr : TA3) : TA3 := fun σ H Q => ta σ H fun x H1 => tr σ H1 fun xs H2 => Q (x :: xs) H2
theorem a3_nil : PA3 X [] nil3 := pa_imp pa_nil fun _ _ _ ⟨_, _, _, _, hr, t, k⟩ => k _ _ _ _ TK.refl hr .nil t
theorem a3_cons (ha : PE3 X e te) (hr : PA3 X es tr) (hs : starEach (e :: es) X.env = (false, eval e X.env) :: starEach es X.env := by rfl) : PA3 X (e :: es) (cons3 te tr) :=
  pa_imp (pa_cons ha hr hs) fun _ _ _ ⟨σ3, H3, Q3, sr, hr, t, k⟩ => ⟨σ3, H3, _, sr, hr, t, fun x v H3a Ha tka hra rx qa => ⟨σ3, H3a, _, sr.mono tka, hra, qa, fun ds vs H3b Hb tkb hrb rs qb =>
    k _ _ _ _ (tka.trans tkb) hrb (.cons (rx.mono tkb) rs) qb⟩⟩
def tp3 (t : TA3) : TE3 := fun σ H Q => t σ H fun ds H1 => ds.length ≤ 1000 ∧ Q (.tup ds) H1
def ls3 (t : TA3) : TE3 := fun σ H Q => t σ H fun ds H1 => ds.length ≤ 1000 ∧ ∀ p, H1 p = none → Q (.ref p) (upd3 H1 p (.lst ds))
theorem le_line {n : Nat} (h : n ≤ 1000) : n ≤ sizeLine := Nat.le_of_lt (small1000 h)
theorem p3_tup {x1 : Nat} (h : PA3 X es tr) : PE3 X (.Tuple es x1 pos) (tp3 tr) :=
  pe_imp (pe_tup h) fun _ _ _ ⟨σ3, H3, Q3, sr, hr, t, k⟩ => ⟨σ3, H3, _, sr, hr, t, fun ds vs H3a Ha tka hra rs qa =>
    ⟨by rw [← rs.length]; exact le_line qa.1, fun p n => k _ _ _ _ (tka.trans (TK.fresh n)) (hra.tup n) (.tup upd_same (rs.mono (TK.fresh n))) qa.2⟩⟩
theorem p3_lst (h : PA3 X es tr) : PE3 X (.List es pos) (ls3 tr) :=
  pe_imp (pe_lst h) fun _ _ _ ⟨σ3, H3, Q3, sr, hr, t, k⟩ => ⟨σ3, H3, _, sr, hr, t, fun ds vs H3a Ha tka hra rs qa =>
    ⟨by rw [← rs.length]; exact le_line qa.1, fun p n => k _ _ _ _ (tka.trans (TK.fresh n)) (hra.setL (TK.fresh n) (rs.mono (TK.fresh n))) (.ref p) (qa.2 p (hra.fresh n))⟩⟩
end

/-! ### operations -/
section
variable {X : Cx}
/-- the tuple lists that + and others want short -/
def r3add : R3 := fun x y H Q => match x, y with
  | .int i, .int j => Q (.int (i + j)) H
  | .str i, .str j => i.length + j.length ≤ sizeLine ∧ Q (.str (i ++ j)) H
  | .ref a, .ref b => (match H a, H b with
    | some (.lst xs), some (.lst ys) => xs.length + ys.length ≤ sizeLine ∧ ∀ p, H p = none → Q (.ref p) (upd3 H p (.lst (xs ++ ys)))
    | _, _ => False)
  | _, _ => False
theorem op3_add : OpR X (binaryOp .Add) (lift2 X.K r3add) := by
  intro pins s σ H x y v u Q I rx ry h
  obtain ⟨dx, dy, H3, Q3, hr, rdx, rdy, t, k⟩ := h
  cases rdx with
  | int i =>
    cases rdy with
    | int j => exact op_add pins s σ H _ _ v u Q I rx ry ⟨i, j, rfl, rfl, k _ _ _ _ TK.refl hr (.int _) t⟩
    | _ => exact t.elim
  | str i =>
    cases rdy with
    | str j => exact op_add_str pins s σ H _ _ v u Q I rx ry ⟨i, j, rfl, rfl, t.1, k _ _ _ _ TK.refl hr (.str _) t.2⟩
    | _ => exact t.elim
  | ref a =>
    cases rdy with
    | ref b =>
      simp only [r3add] at t
      split at t
      · rename_i xs ys ha hb
        obtain ⟨vs, ga, ra⟩ := hr a _ ha
        obtain ⟨us, gb, rb⟩ := hr b _ hb
        exact op_cat pins s σ H _ _ v u Q I rx ry ⟨a, b, vs, us, rfl, rfl, ga, gb, by rw [← ra.length, ← rb.length]; exact t.1, fun p n =>
          k _ _ _ _ (TK.fresh n) (hr.setL (TK.fresh n) ((ra.append rb).mono (TK.fresh n))) (.ref p) (t.2 p (hr.fresh n))⟩
      · exact t.elim
    | _ => exact t.elim
  | _ => exact t.elim
/-- two ints -/
def rI3 (C : Int → Int → Prop) (g : Int → Int → D) : R3 := fun x y H Q => match x, y with
  | .int i, .int j => C i j ∧ Q (g i j) H
  | _, _ => False
def rI30 (g : Int → Int → D) : R3 := fun x y H Q => match x, y with
  | .int i, .int j => Q (g i j) H
  | _, _ => False
theorem op3_of0 {f : Value → Value → Sem Value} {g : Int → Int → V} {g3 : Int → Int → D} (h : OpR X f (rI0 g)) (e : ∀ H i j, Rep X.K H (g3 i j) (g i j)) : OpR X f (lift2 X.K (rI30 g3)) := by
  intro pins s σ H x y v u Q I rx ry q
  obtain ⟨dx, dy, H3, Q3, hr, rdx, rdy, t, k⟩ := q
  cases rdx with
  | int i =>
    cases rdy with
    | int j => exact h pins s σ H _ _ v u Q I rx ry ⟨i, j, rfl, rfl, k _ _ _ _ TK.refl hr (e _ i j) t⟩
    | _ => exact t.elim
  | _ => exact t.elim
theorem op3_of {f : Value → Value → Sem Value} {C : Int → Int → Prop} {g : Int → Int → V} {g3 : Int → Int → D} (h : OpR X f (rI C g)) (e : ∀ H i j, Rep X.K H (g3 i j) (g i j)) : OpR X f (lift2 X.K (rI3 C g3)) := by
  intro pins s σ H x y v u Q I rx ry q
  obtain ⟨dx, dy, H3, Q3, hr, rdx, rdy, t, k⟩ := q
  cases rdx with
  | int i =>
    cases rdy with
    | int j => exact h pins s σ H _ _ v u Q I rx ry ⟨i, j, rfl, rfl, t.1, k _ _ _ _ TK.refl hr (e _ i j) t.2⟩
    | _ => exact t.elim
  | _ => exact t.elim
theorem op3_sub : OpR X (binaryOp .Sub) (lift2 X.K (rI30 fun i j => .int (i - j))) := op3_of0 op_sub fun _ _ _ => .int _
theorem op3_mod : OpR X (binaryOp .Mod) (lift2 X.K (rI3 (fun _ j => 0 < j) fun i j => .int (i % j))) := op3_of op_mod fun _ _ _ => .int _
/-- the ints of a tuple of ints -/
def intsOf : List D → Option (List Int)
  | [] => some []
  | .int i :: ds => (intsOf ds).map (i :: ·)
  | _ :: _ => none
theorem intsOf_inv : ∀ {ds : List D} {ns : List Int}, intsOf ds = some ns → ds = ns.map D.int
  | [], _, h => by simp only [intsOf, Option.some.injEq] at h; subst h; rfl
  | .int i :: ds, ns, h => by
    simp only [intsOf, Option.map_eq_some_iff] at h
    obtain ⟨ms, h1, h2⟩ := h
    subst h2
    rw [intsOf_inv h1]; rfl
  | .non :: _, _, h => by simp [intsOf] at h
  | .bl _ :: _, _, h => by simp [intsOf] at h
  | .str _ :: _, _, h => by simp [intsOf] at h
  | .tup _ :: _, _, h => by simp [intsOf] at h
  | .fl _ :: _, _, h => by simp [intsOf] at h
  | .ktup _ :: _, _, h => by simp [intsOf] at h
  | .ref _ :: _, _, h => by simp [intsOf] at h
  | .ty _ :: _, _, h => by simp [intsOf] at h
def r3lt : R3 := fun x y H Q => match x, y with
  | .int i, .int j => Q (.bl (decide (i < j))) H
  | .tup xs, .tup ys => (match intsOf xs, intsOf ys with
    | some ns, some ms => Q (.bl (HT.lexLt ns ms)) H
    | _, _ => False)
  | _, _ => False
theorem op3_lt (hu : X.A.units < cLine) : OpR X (compareOp .Lt) (lift2 X.K r3lt) := by
  intro pins s σ H x y v u Q I rx ry h
  obtain ⟨dx, dy, H3, Q3, hr, rdx, rdy, t, k⟩ := h
  cases rdx with
  | int i =>
    cases rdy with
    | int j => exact op_lt pins s σ H _ _ v u Q I rx ry ⟨i, j, rfl, rfl, k _ _ _ _ TK.refl hr (.bl _) t⟩
    | _ => exact t.elim
  | tup ha ra =>
    cases rdy with
    | tup hb rb =>
      simp only [r3lt] at t
      split at t
      · rename_i ns ms e1 e2
        have z1 := intsOf_inv e1
        have z2 := intsOf_inv e2
        subst z1; subst z2
        have w1 := ra.ints_inv
        have w2 := rb.ints_inv
        subst w1; subst w2
        exact op_ltT hu pins s σ H _ _ v u Q I rx ry ⟨_, _, ns, ms, rfl, rfl, SqT.of ha, SqT.of hb, k _ _ _ _ TK.refl hr (.bl _) t⟩
      · exact t.elim
    | _ => exact t.elim
  | _ => exact t.elim
def r3neg : D → Hp3 → VK3 → Prop := fun x H Q => match x with
  | .int i => Q (.int (-i)) H
  | _ => False
theorem un3_neg : UnR X (unaryOp .USub) (lift1 X.K r3neg) := by
  intro pins s σ H x v Q I rx h
  obtain ⟨dx, H3, Q3, hr, rdx, t, k⟩ := h
  cases rdx with
  | int i => exact un_neg pins s σ H _ v Q I rx ⟨i, rfl, k _ _ _ _ TK.refl hr (.int _) t⟩
  | _ => exact t.elim
/-! ### is None -/
def isN : D → Bool
  | .non => true
  | _ => false
def r3isN : R3 := fun x y H Q => match y with
  | .non => Q (.bl (isN x)) H
  | _ => False
def r3notN : R3 := fun x y H Q => match y with
  | .non => Q (.bl (!isN x)) H
  | _ => False
/-! ### subscripts -/
theorem atI_rep {K : PySem.W.Frag} {H : Hp} {ds : List D} {vs : List V} {i : Int} {d : D} (r : RepL K H ds vs) (h : atI ds i = some d) : ∃ v, atI vs i = some v ∧ Rep K H d v := by
  unfold atI at h ⊢
  rw [r.length] at h
  cases e : ixN vs.length i with
  | none => rw [e] at h; cases h
  | some j =>
    rw [e] at h
    exact r.get h
def r3ix : R3 := fun x y H Q => match x, y with
  | .tup ds, .int i => (match atI ds i with | some d => Q d H | none => False)
  | .fl ds, .int i => (match atI ds i with | some d => Q d H | none => False)
  | .ktup ds, .int i => (match atI ds i with | some d => Q d H | none => False)
  | .str z, .int i => z.length ≤ sizeLine ∧ (match atI z.cps.toList i with | some c => Q (.str ⟨#[c]⟩) H | none => False)
  | .ref a, .int i => (match H a with
    | some (.lst ds) => (match atI ds i with | some d => Q d H | none => False)
    | _ => False)
  | _, _ => False
theorem ix3 : IxR X (lift2 X.K r3ix) := by
  intro value slice pins s σ H x y v u Q I rx ry h hs
  obtain ⟨dx, dy, H3, Q3, hr, rdx, rdy, t, k⟩ := h
  cases rdx with
  | tup ha ra =>
    cases rdy with
    | int i =>
      simp only [r3ix] at t
      split at t
      · rename_i d e
        obtain ⟨w, ew, rw'⟩ := atI_rep ra e
        exact ix_tup value slice pins s σ H _ _ v u Q I rx ry ⟨_, _, i, w, rfl, rfl, SqT.of ha, ew, k _ _ _ _ TK.refl hr rw' t⟩ hs
      · exact t.elim
    | _ => exact t.elim
  | ktup ha ra =>
    cases rdy with
    | int i =>
      simp only [r3ix] at t
      split at t
      · rename_i d e
        obtain ⟨w, ew, rw'⟩ := atI_rep ra e
        exact ix_tup value slice pins s σ H _ _ v u Q I rx ry ⟨_, _, i, w, rfl, rfl, ha.sq, ew, k _ _ _ _ TK.refl hr rw' t⟩ hs
      · exact t.elim
    | _ => exact t.elim
  | fl ha ra =>
    cases rdy with
    | int i =>
      simp only [r3ix] at t
      split at t
      · rename_i d e
        obtain ⟨w, ew, rw'⟩ := atI_rep ra e
        exact ix_list value slice pins s σ H _ _ v u Q I rx ry ⟨_, _, i, w, rfl, rfl, ha.sq, ew, k _ _ _ _ TK.refl hr rw' t⟩ hs
      · exact t.elim
    | _ => exact t.elim
  | str z =>
    cases rdy with
    | int i =>
      simp only [r3ix] at t
      obtain ⟨hz, t⟩ := t
      split at t
      · rename_i c e
        exact ix_str value slice pins s σ H _ _ v u Q I rx ry ⟨z, i, c, rfl, rfl, hz, e, k _ _ _ _ TK.refl hr (.str _) t⟩ hs
      · exact t.elim
    | _ => exact t.elim
  | ref a =>
    cases rdy with
    | int i =>
      simp only [r3ix] at t
      split at t
      · rename_i ds ha
        obtain ⟨vs, ga, ra⟩ := hr a _ ha
        split at t
        · rename_i d e
          obtain ⟨w, ew, rw'⟩ := atI_rep ra e
          exact ix_list value slice pins s σ H _ _ v u Q I rx ry ⟨_, _, i, w, rfl, rfl, SqL.of ga, ew, k _ _ _ _ TK.refl hr rw' t⟩ hs
        · exact t.elim
      · exact t.elim
    | _ => exact t.elim
  | _ => exact t.elim

/-! ### slices -/
def cut3 {α : Type} (xs : List α) (lo hi : Option Int) : List α := (xs.drop (HT.sIx xs.length 0 lo)).take (HT.sIx xs.length xs.length hi - HT.sIx xs.length 0 lo)
theorem cut3_rep {K : PySem.W.Frag} {H : Hp} {ds : List D} {vs : List V} (r : RepL K H ds vs) (lo hi : Option Int) : RepL K H (cut3 ds lo hi) (cutV vs lo hi) := by
  unfold cut3 cutV
  rw [r.length]
  exact (r.drop _).take _
abbrev TO3 := St3 → Hp3 → (Option Int → Hp3 → Prop) → Prop
def liftO (K : PySem.W.Frag) (t : TO3) : TO := fun σ H Q => ∃ σ3 H3 Q3, SR K H σ3 σ ∧ HR K H3 H ∧ t σ3 H3 Q3 ∧ ∀ o H3' H', TK H H' → HR K H3' H' → Q3 o H3' → Q o H'
def PO3 (X : Cx) (e : Option Expr) (t : TO3) : Prop := PO X e (liftO X.K t)
theorem po_imp {e : Option Expr} {t t' : TO} (h : PO X e t) (i : ∀ σ H Q, t' σ H Q → t σ H Q) : PO X e t' := fun pins s σ H Q I hw => h pins s σ H Q I (i σ H Q hw)
def np3 : TO3 := fun _ H Q => Q none H
def pt3 (t : TE3) : TO3 := fun σ H Q => t σ H fun x H1 => match x with
  | .int i => Q (some i) H1
  | _ => False
theorem po3_none : PO3 X none np3 := po_imp po_none fun _ _ _ ⟨_, _, _, _, hr, t, k⟩ => k _ _ _ TK.refl hr t
theorem po3_some {e : Expr} {te : TE3} (h : PE3 X e te) : PO3 X (some e) (pt3 te) := po_imp (po_some h) fun _ _ _ ⟨σ3, H3, Q3, sr, hr, t, k⟩ =>
  ⟨σ3, H3, _, sr, hr, t, fun x v H3a Ha tka hra rx qa => by
    cases rx with
    | int i => exact ⟨i, rfl, k _ _ _ tka hra qa⟩
    | _ => exact qa.elim⟩
abbrev RSl := D → Option Int → Option Int → Hp3 → VK3 → Prop
def liftSl (K : PySem.W.Frag) (r : RSl) : V → Option Int → Option Int → Hp → VK → Prop := fun x lo hi H Q => ∃ d H3 Q3, HR K H3 H ∧ Rep K H d x ∧ r d lo hi H3 Q3 ∧ KE K H Q3 Q
def sl3 (r : RSl) (te : TE3) (tl th : TO3) : TE3 := fun σ H Q => te σ H fun x H1 => tl σ H1 fun l H2 => th σ H2 fun u H3 => r x l u H3 Q
theorem p3_slice {e : Expr} {te : TE3} {lo hi : Option Expr} {tl th : TO3} {pos p2 : Pos} {r : RSl} (hr : SlR X (liftSl X.K r)) (he : PE3 X e te) (hl : PO3 X lo tl) (hu : PO3 X hi th) : PE3 X (.Subscript e (.Slice lo hi none p2) pos) (sl3 r te tl th) :=
  pe_imp (pe_slice hr he hl hu) fun _ _ _ ⟨σ3, H3, Q3, sr, hr, t, k⟩ => ⟨σ3, H3, _, sr, hr, t, fun x v H3a Ha tka hra rx qa => ⟨σ3, H3a, _, sr.mono tka, hra, qa, fun l H3b Hb tkb hrb qb =>
    ⟨σ3, H3b, _, (sr.mono tka).mono tkb, hrb, qb, fun u H3c Hc tkc hrc qc => ⟨x, H3c, Q3, hrc, (rx.mono tkb).mono tkc, qc, k.mono ((tka.trans tkb).trans tkc)⟩⟩⟩⟩
def r3sl : RSl := fun x lo hi H Q => match x with
  | .fl ds => ∀ p, H p = none → Q (.ref p) (upd3 H p (.lst (cut3 ds lo hi)))
  | .ref a => (match H a with
    | some (.lst ds) => ∀ p, H p = none → Q (.ref p) (upd3 H p (.lst (cut3 ds lo hi)))
    | _ => False)
  | _ => False
/-! ### calls of built-ins -/
def cb3 (r : List D → Hp3 → VK3 → Prop) (t : TA3) : TE3 := fun σ H Q => t σ H fun ds H1 => r ds H1 Q
theorem lift_cb {K : PySem.W.Frag} {r : List D → Hp3 → VK3 → Prop} {t : TA3} {σ : St} {H : Hp} {Q : VK} (h : liftE K (cb3 r t) σ H Q) : tCB (liftC K r) (liftA K t) σ H Q := by
  obtain ⟨σ3, H3, Q3, sr, hr, t, k⟩ := h
  exact ⟨σ3, H3, _, sr, hr, t, fun ds vs H3a Ha tka hra rs qa => ⟨ds, H3a, Q3, hra, rs, qa, k.mono tka⟩⟩
theorem p3_callB {x : Str} {p pos : Pos} {e : Expr} {es : List Expr} {t : TA3} {id : String} {r : List D → Hp3 → VK3 → Prop} (hc : CallR X (.builtin id) (liftC X.K r)) (hg : Gl X x) (hm : X.mg x = none) (hv : bootBuiltins x = some (.builtin id)) (ha : PA3 X (e :: es) t)
    (hn : x ≠ "__name__" := by decide) (hdb : (x == ("__debug__" : Str)) = false := by decide)
    (he : starEach (e :: es) X.env = (false, eval e X.env) :: starEach es X.env := by rfl) (hpl : (backTo pos (starEach es X.env)).any (·.1) = false := by rfl) : PE3 X (.Call (.Name x p) (e :: es) [] pos) (cb3 r t) :=
  pe_imp (pe_callB hc hg hm hv ha hn hdb he hpl) fun _ _ _ h => lift_cb h
theorem p3_callTy {x : Str} {p pos : Pos} {e : Expr} {es : List Expr} {t : TA3} {T : String} {r : List D → Hp3 → VK3 → Prop} (hc : CallR X (.type T) (liftC X.K r)) (hg : Gl X x) (hm : X.mg x = none) (hv : bootBuiltins x = some (.type T)) (ha : PA3 X (e :: es) t)
    (hn : x ≠ "__name__" := by decide) (hdb : (x == ("__debug__" : Str)) = false := by decide)
    (he : starEach (e :: es) X.env = (false, eval e X.env) :: starEach es X.env := by rfl) (hpl : (backTo pos (starEach es X.env)).any (·.1) = false := by rfl) : PE3 X (.Call (.Name x p) (e :: es) [] pos) (cb3 r t) :=
  pe_imp (pe_callTy hc hg hm hv ha hn hdb he hpl) fun _ _ _ h => lift_cb h
def r3len : List D → Hp3 → VK3 → Prop := fun ds H Q => match ds with
  | [.tup xs] => Q (.int xs.length) H
  | [.fl xs] => Q (.int xs.length) H
  | [.str z] => z.length ≤ sizeLine ∧ Q (.int z.length) H
  | [.ref a] => (match H a with
    | some (.lst xs) => Q (.int xs.length) H
    | _ => False)
  | _ => False
theorem cb3_len : CallR X (.builtin "len") (liftC X.K r3len) := by
  intro pins s σ H xs us Q I rs h
  obtain ⟨ds, H3, Q3, hr, rd, t, k⟩ := h
  cases rd with
  | nil => exact t.elim
  | cons r1 r2 =>
    cases r2 with
    | cons _ _ => cases r1 <;> exact t.elim
    | nil =>
      cases r1 with
      | tup ha ra => exact call_len_seq pins s σ H _ us Q I rs ⟨_, _, rfl, .inr (SqT.of ha), by rw [← ra.length]; exact k _ _ _ _ TK.refl hr (.int _) t⟩
      | fl ha ra => exact call_len_seq pins s σ H _ us Q I rs ⟨_, _, rfl, .inl ha.sq, by rw [← ra.length]; exact k _ _ _ _ TK.refl hr (.int _) t⟩
      | str z => exact call_len_str pins s σ H _ us Q I rs ⟨_, rfl, t.1, k _ _ _ _ TK.refl hr (.int _) t.2⟩
      | ref a =>
        simp only [r3len] at t
        split at t
        · rename_i ds ha
          obtain ⟨vs, ga, ra⟩ := hr a _ ha
          exact call_len_seq pins s σ H _ us Q I rs ⟨_, _, rfl, .inl (SqL.of ga), by rw [← ra.length]; exact k _ _ _ _ TK.refl hr (.int _) t⟩
        · exact t.elim
      | _ => exact t.elim
def r3tuple : List D → Hp3 → VK3 → Prop := fun ds H Q => match ds with
  | [.tup xs] => Q (.tup xs) H
  | [.fl xs] => Q (.tup xs) H
  | [.ref a] => (match H a with
    | some (.lst xs) => Q (.tup xs) H
    | _ => False)
  | _ => False
theorem cb3_tuple : CallR X (.type "tuple") (liftC X.K r3tuple) := by
  intro pins s σ H xs us Q I rs h
  obtain ⟨ds, H3, Q3, hr, rd, t, k⟩ := h
  cases rd with
  | nil => exact t.elim
  | cons r1 r2 =>
    cases r2 with
    | cons _ _ => cases r1 <;> exact t.elim
    | nil =>
      cases r1 with
      | tup ha ra => exact call_tuple_of pins s σ H _ us Q I rs ⟨_, _, rfl, .inr ⟨SqT.of ha, k _ _ _ _ TK.refl hr (.tup ha ra) t⟩⟩
      | fl ha ra => exact call_tuple_of pins s σ H _ us Q I rs ⟨_, _, rfl, .inl ⟨ha.sq, fun l n => k _ _ _ _ (TK.fresh n) (hr.tup n) (.tup upd_same (ra.mono (TK.fresh n))) t⟩⟩
      | ref a =>
        simp only [r3tuple] at t
        split at t
        · rename_i ds ha
          obtain ⟨vs, ga, ra⟩ := hr a _ ha
          exact call_tuple_of pins s σ H _ us Q I rs ⟨_, _, rfl, .inl ⟨SqL.of ga, fun l n => k _ _ _ _ (TK.fresh n) (hr.tup n) (.tup upd_same (ra.mono (TK.fresh n))) t⟩⟩
        · exact t.elim
      | _ => exact t.elim
def r3list : List D → Hp3 → VK3 → Prop := fun ds H Q => match ds with
  | [.tup xs] => ∀ p, H p = none → Q (.ref p) (upd3 H p (.lst xs))
  | [.fl xs] => ∀ p, H p = none → Q (.ref p) (upd3 H p (.lst xs))
  | [.ref a] => (match H a with
    | some (.lst xs) => ∀ p, H p = none → Q (.ref p) (upd3 H p (.lst xs))
    | _ => False)
  | _ => False
theorem cb3_list : CallR X (.type "list") (liftC X.K r3list) := by
  intro pins s σ H xs us Q I rs h
  obtain ⟨ds, H3, Q3, hr, rd, t, k⟩ := h
  have fin : ∀ {ds : List D} {vs : List V}, RepL X.K H ds vs → (∀ p, H3 p = none → Q3 (.ref p) (upd3 H3 p (.lst ds))) → ∀ l, H l = none → Q (.ref l) (upd H l (.lst vs)) := fun ra q l n =>
    k _ _ _ _ (TK.fresh n) (hr.setL (TK.fresh n) (ra.mono (TK.fresh n))) (.ref l) (q l (hr.fresh n))
  cases rd with
  | nil => exact t.elim
  | cons r1 r2 =>
    cases r2 with
    | cons _ _ => cases r1 <;> exact t.elim
    | nil =>
      cases r1 with
      | tup ha ra => exact call_list_of pins s σ H _ us Q I rs ⟨_, _, rfl, .inr (SqT.of ha), fin ra t⟩
      | fl ha ra => exact call_list_of pins s σ H _ us Q I rs ⟨_, _, rfl, .inl ha.sq, fin ra t⟩
      | ref a =>
        simp only [r3list] at t
        split at t
        · rename_i ds ha
          obtain ⟨vs, ga, ra⟩ := hr a _ ha
          exact call_list_of pins s σ H _ us Q I rs ⟨_, _, rfl, .inl (SqL.of ga), fin ra t⟩
        · exact t.elim
      | _ => exact t.elim
end
end L3

namespace L3
open PySem PySem.Spec PyProof.Rows L2
/-! ### ranges of any numbers -/
theorem turn_long {P : Program} {w : World} {K : PySem.W.Frag} {tg : Expr} (it : Addr) (lo : Int) (n : Nat) : Turn P w K tg (Itr lo n) [it] it (fun i h => IsLongIter h it (lo + (i : Nat) * 1) ((n : Int) - (i : Nat)) 1) where
  mem := List.mem_singleton.mpr rfl
  obj := fun i h st b hb => by
    rw [List.mem_singleton.mp hb]
    exact ⟨_, st, fun v z => by have z' : Data.fields _ = Data.cell v := z; cases z'⟩
  keep := fun i h h' st k => k it (List.mem_singleton.mpr rfl) _ st
  item := by
    intro X hP hw hK hc i pins s σ H E I hf st hg
    subst hP hw hK
    obtain ⟨f0, f1, f2, f3, f4, f5⟩ := hf it (List.mem_singleton.mpr rfl)
    have hlt : i < n := hg
    refine wpAny_pyNext_long_item st (by omega) fun h' st' sb => ?_
    have I1 : Inv X pins σ H { s with heap := h', toks := s.toks + 1 } := I.turned (fun b o hb e => (sb.2 b hb).trans e) f0 f1 f3 f4 f5
    have st2 : IsLongIter h' it (lo + ((i + 1 : Nat) : Int) * 1) ((n : Int) - ((i + 1 : Nat) : Int)) 1 := by
      have e1 : lo + (i : Int) * 1 + 1 = lo + ((i + 1 : Nat) : Int) * 1 := by omega
      have e2 : (n : Int) - (i : Int) - 1 = (n : Int) - ((i + 1 : Nat) : Int) := by omega
      rw [← e1, ← e2]; exact st'
    exact ⟨_, rfl, go_of (s := { s with heap := h', toks := s.toks + 1 }) (n := "longrange_iterator") st2 rfl rfl (by decide) ⟨.int (lo + i), H, I1, ⟨s.toks, by rw [Int.mul_one]⟩, ⟨rfl, rfl⟩, st2, fun b hb => (hf b hb).1⟩⟩
  done := by
    intro X hP hw hK hc i pins s σ H E I hf st hg
    subst hP hw hK
    obtain ⟨f0, f1, f2, f3, f4, f5⟩ := hf it (List.mem_singleton.mpr rfl)
    have hle : n ≤ i := hg
    exact wpAny_pyNext_long_end (I.ok.hd hc) st (by omega) fun h' eb => ⟨rfl, I.turned (t' := s.toks) (fun b o hb e => eb b o hb e) f0 f1 f3 f4 f5⟩
  self := fun _ _ _ _ _ st h => wpAny_pyIter_longiter st h
section
variable {X : Cx} {tg : Expr}
theorem range_any {pins : List (Addr × Obj)} {σ : St} {H : Hp} {s : Shared} {R : It → Hp → Prop} {E : Value → Shared → Prop} {lo hi : Int} {t u v : Tok} {tk : Nat} (I : Inv X pins σ H s) (q : R (Itr lo (hi - lo).toNat) H) :
    wpAny (model X.prog X.w) X.A (pyIter (.ref s.heap.objs.size)) (PIE X pins σ tg R) E { s with heap := s.heap.push { cls := .type "range", data := .fields #[.int lo t, .int hi u, .int 1 v] }, toks := tk } := by
  have I1 : Inv X pins σ H { s with heap := s.heap.push { cls := .type "range", data := .fields #[.int lo t, .int hi u, .int 1 v] }, toks := tk } := I.kept fun b o e => Heap.get?_push_of_some _ e
  have e2 : (((hi - lo).toNat : Nat) : Int) - ((0 : Nat) : Int) = Builtin.Range.rangeSize lo hi 1 := by rw [rangeSize_one]; split <;> omega
  have e1 : lo + ((0 : Nat) : Int) * 1 = lo := by omega
  have hf : ∀ b ∈ [(s.heap.push { cls := .type "range", data := .fields #[.int lo t, .int hi u, .int 1 v] }).objs.size], FpOk X pins H b := fun b hb => by
    rw [List.mem_singleton.mp hb]
    exact I1.fpOk (Nat.le_refl _) (I1.hok.fresh (Nat.le_refl _))
  cases hs : Builtin.Range.small lo hi 1 with
  | true =>
    refine wpAny_pyIter_range (IsRange.new ..) hs ⟨_, _, _, _, H, rfl, I1.kept (t' := tk) fun b o e => Heap.get?_push_of_some _ e, turn_range _ lo (hi - lo).toNat, ?_, hf, q⟩
    show IsRangeIter _ _ (lo + ((0 : Nat) : Int) * 1) ((((hi - lo).toNat : Nat) : Int) - ((0 : Nat) : Int)) 1
    rw [e1, e2]
    exact Heap.get?_push_size _ rfl
  | false =>
    refine wpAny_pyIter_longrange (IsRange.new ..) hs ⟨_, _, _, _, H, rfl, I1.kept (t' := tk) fun b o e => Heap.get?_push_of_some _ e, turn_long _ lo (hi - lo).toNat, ?_, hf, q⟩
    show IsLongIter _ _ (lo + ((0 : Nat) : Int) * 1) ((((hi - lo).toNat : Nat) : Int) - ((0 : Nat) : Int)) 1
    rw [e1, e2]
    exact Heap.get?_push_size _ rfl
def jRng1 (ta : TA) : TI := fun σ H R => ta σ H fun vs H1 => ∃ j : Int, vs = [.int j] ∧ R (Itr 0 j.toNat) H1
theorem pj_range1 {a : Expr} {ta : TA} {p pos : Pos} (hg : Gl X "range") (hm : X.mg "range" = none) (ha : PA X [a] ta) (hs : starEach [a] X.env = [(false, eval a X.env)] := by rfl) : PI X tg (.Call (.Name "range" p) [a] [] pos) (jRng1 ta) := by
  intro pins s σ H R I h
  refine Call_ (ld_blt I hg hm boot_range (PyProof.Rows.callWith_type1 (thn (ha pos pins s σ H _ I h) fun us s1 ⟨vs, H1, I1, r1, j, e, q⟩ => ?_) hs rfl))
  subst e
  obtain ⟨u, rfl, t, rfl⟩ := vals1 r1
  exact call_range_1 (range_any I1 (by simpa using q))
end
end L3

namespace L3
open PySem PySem.Spec PyProof.Rows L2
section
variable {X : Cx} {st : Stmt} {rest : List Stmt} {t u : TS3} {e : Expr} {te : TE3} {pos : Pos}
/-! ### statements -/
def nx3 : TS3 := fun D σ H => D.nx σ H
def sq3 (t u : TS3) : TS3 := fun D σ H => t { D with nx := u D } σ H
theorem s3_nil : PSs3 X [] nx3 := pss_imp pss_nil fun _ _ _ ⟨_, _, _, sr, hr, t, k⟩ => k.nx _ _ _ _ TK.refl sr hr t
theorem s3_cons (h1 : PS3 X st t) (h2 : PSs3 X rest u) : PSs3 X (st :: rest) (sq3 t u) :=
  pss_imp (pss_cons h1 h2) fun _ _ _ ⟨σ3, H3, D3, sr, hr, q, k⟩ => ⟨σ3, H3, { D3 with nx := u D3 }, sr, hr, q,
    ⟨fun σ3' σ' H3' H' tk sr' hr' q' => ⟨σ3', H3', D3, sr', hr', q', k.mono tk⟩, k.rt, k.bk, k.ct⟩⟩
theorem s3_one (h1 : PS3 X st t) : PSs3 X [st] t := pss_one h1
def br3 : TS3 := fun D σ H => D.bk σ H
def co3 : TS3 := fun D σ H => D.ct σ H
def dr3 (te : TE3) : TS3 := fun D σ H => te σ H fun _ H1 => D.nx σ H1
theorem s3_expr (he : PE3 X e te) (hs : swapsWith e none pos.line X.env = pure false := by rfl) : PS3 X (.Expr e pos) (dr3 te) :=
  ps_imp (ps_expr he hs) fun _ _ _ ⟨σ3, H3, D3, sr, hr, t, k⟩ => ⟨σ3, H3, _, sr, hr, t, fun x v H3a Ha tka hra rx qa => k.nx _ _ _ _ tka (sr.mono tka) hra qa⟩
def rt3 (te : TE3) : TS3 := fun D σ H => te σ H D.rt
theorem s3_ret (he : PE3 X e te) : PS3 X (.Return (some e) pos) (rt3 te) :=
  ps_imp (ps_ret he) fun _ _ _ ⟨σ3, H3, D3, sr, hr, t, k⟩ => ⟨σ3, H3, _, sr, hr, t, k.rt⟩
def rn3 : TS3 := fun D _ H => D.rt .non H
def is3 (c : TT3) (t u : TS3) : TS3 := fun D σ H => c σ H fun b H1 => if b = true then t D σ H1 else u D σ H1
theorem s3_if {c : Expr} {a b : List Stmt} {tc : TT3} (hc : PT3 X c tc) (ha : PSs3 X a t) (hb : PSs3 X b u) : PS3 X (.If c a b pos) (is3 tc t u) :=
  ps_imp (ps_if hc ha hb) fun _ _ _ ⟨σ3, H3, D3, sr, hr, q, k⟩ => ⟨σ3, H3, _, sr, hr, q, fun b H3a Ha tka hra qa => by
    cases b with
    | true => exact ⟨σ3, H3a, D3, sr.mono tka, hra, qa, k.mono tka⟩
    | false => exact ⟨σ3, H3a, D3, sr.mono tka, hra, qa, k.mono tka⟩⟩
def st3 (i : Nat) (te : TE3) : TS3 := fun D σ H => te σ H fun x H1 => D.nx (σ.set i (some x)) H1
theorem s3_set (i : Nat) {x : Str} {pos' : Pos} (hN : X.N.Nodup) (he : PE3 X e te) (hi : X.N[i]? = some x := by rfl) (hx : Loc X.env.scope x := by first | exact Or.inl rfl | exact Or.inr rfl) (hs : swapsWith e (some (.Name x pos')) pos.line X.env = pure false := by rfl)
    (hf : X.fn x = true ∨ X.env.scope.names.lookup x = some .local := by first | exact .inl rfl | exact .inr rfl | assumption) : PS3 X (.Assign [.Name x pos'] e pos) (st3 i te) :=
  ps_imp (ps_set hN hi hx he hs hf) fun _ _ _ ⟨σ3, H3, D3, sr, hr, t, k⟩ => ⟨σ3, H3, _, sr, hr, t, fun x v H3a Ha tka hra rx qa => k.nx _ _ _ _ tka ((sr.mono tka).set i rx) hra qa⟩

/-! ### targets -/
abbrev TG3 := D → St3 → Hp3 → (St3 → Hp3 → Prop) → Prop
def liftG (K : PySem.W.Frag) (t : TG3) : TG := fun v σ H Q => ∃ d σ3 H3 Q3, Rep K H d v ∧ SR K H σ3 σ ∧ HR K H3 H ∧ t d σ3 H3 Q3 ∧ KN K H Q3 Q
def PG3 (X : Cx) (tg : Expr) (t : TG3) : Prop := PG X tg (liftG X.K t)
theorem pg_imp {tg : Expr} {t t' : TG} (h : PG X tg t) (i : ∀ v σ H Q, t' v σ H Q → t v σ H Q) : PG X tg t' := fun pins s σ H v u Q I r hw => h pins s σ H v u Q I r (i v σ H Q hw)
def gn3 (i : Nat) : TG3 := fun d σ H Q => Q (σ.set i (some d)) H
theorem g3_name (i : Nat) {x : Str} (hN : X.N.Nodup) (hi : X.N[i]? = some x := by rfl) (hx : Loc X.env.scope x := by first | exact Or.inl rfl | exact Or.inr rfl) (hf : X.fn x = true ∨ X.env.scope.names.lookup x = some .local := by first | exact .inl rfl | exact .inr rfl | assumption) :
    PG3 X (.Name x pos) (gn3 i) := pg_imp (pg_name hN hi hx hf) fun _ _ _ _ ⟨d, σ3, H3, Q3, rd, sr, hr, t, k⟩ => k _ _ _ _ TK.refl (sr.set i rd) hr t
def g2_3 (i j : Nat) : TG3 := fun d σ H Q => match d with
  | .tup [x, y] => Q ((σ.set i (some x)).set j (some y)) H
  | _ => False
def g3_3 (i j l : Nat) : TG3 := fun d σ H Q => match d with
  | .tup [x, y, z] => Q (((σ.set i (some x)).set j (some y)).set l (some z)) H
  | _ => False
theorem g3_pair (i j : Nat) {x y : Str} {p1 p2 : Pos} {kk : Nat} (hc : X.calm = true) (hN : X.N.Nodup) (hi : X.N[i]? = some x := by rfl) (hx : Loc X.env.scope x := by first | exact Or.inl rfl | exact Or.inr rfl) (hj : X.N[j]? = some y := by rfl) (hy : Loc X.env.scope y := by first | exact Or.inl rfl | exact Or.inr rfl)
    (hf : X.fn x = true ∨ X.env.scope.names.lookup x = some .local := by first | exact .inl rfl | exact .inr rfl | assumption) (hf' : X.fn y = true ∨ X.env.scope.names.lookup y = some .local := by first | exact .inl rfl | exact .inr rfl | assumption) :
    PG3 X (.Tuple [.Name x p1, .Name y p2] kk pos) (g2_3 i j) :=
  pg_imp (pg_tup (n := 2) hc (pgs_cons (pg_name hN hi hx hf) (pgs_cons (pg_name hN hj hy hf') pgs_nil))) fun v σ H Q ⟨d, σ3, H3, Q3, rd, sr, hr, t, k⟩ => by
    cases rd with
    | tup ha ra =>
      cases ra with
      | nil => exact t.elim
      | cons r1 ra =>
        cases ra with
        | nil => exact t.elim
        | cons r2 ra =>
          cases ra with
          | cons _ _ => exact t.elim
          | nil => exact ⟨_, _, rfl, SqT.of ha, rfl, _, _, rfl, _, _, rfl, rfl, k _ _ _ _ TK.refl ((sr.set i r1).set j r2) hr t⟩
    | _ => exact t.elim
def as3 (te : TE3) (g : TG3) : TS3 := fun D σ H => te σ H fun x H1 => g x σ H1 D.nx
theorem s3_asg {tg : Expr} {g : TG3} (he : PE3 X e te) (hg : PG3 X tg g) (hs : swapsWithSole [tg] e pos.line X.env = pure false := by rfl) (hw : swappedStores [tg] e X.env = pure none := by rfl)
    (h1 : (assignEach [tg] X.env).map (·.2) = [assign tg X.env] := by rfl) : PS3 X (.Assign [tg] e pos) (as3 te g) :=
  ps_imp (ps_asg he hg hs hw h1) fun _ _ _ ⟨σ3, H3, D3, sr, hr, t, k⟩ => ⟨σ3, H3, _, sr, hr, t, fun x v H3a Ha tka hra rx qa => ⟨x, σ3, H3a, _, rx, sr.mono tka, hra, qa, k.nx.mono tka⟩⟩

/-! ### while -/
/-! ### for -/
/-- what is walked: its items, and what must stay for it -/
abbrev TI3 := St3 → Hp3 → (List D → (Hp3 → Prop) → Hp3 → Prop) → Prop
def ItOk (K : PySem.W.Frag) (H0 : Hp) (ds : List D) (keep : Hp3 → Prop) (J : It) : Prop :=
  ∀ H3 H, TK H0 H → HR K H3 H → keep H3 → (∀ i, i < ds.length → J.go i H ∧ ∀ x H', J.yld i H x H' → TK H H' ∧ HR K H3 H' ∧ ∃ d, ds[i]? = some d ∧ Rep K H' d x) ∧ J.stop ds.length H
def liftI (K : PySem.W.Frag) (t : TI3) : TI := fun σ H R => ∃ σ3 H3 R3, SR K H σ3 σ ∧ HR K H3 H ∧ t σ3 H3 R3 ∧
  ∀ ds keep J H3' H', TK H H' → HR K H3' H' → ItOk K H' ds keep J → R3 ds keep H3' → R J H'
def PI3 (X : Cx) (tg iter : Expr) (t : TI3) : Prop := PI X tg iter (liftI X.K t)
theorem pi_imp {tg iter : Expr} {t t' : TI} (h : PI X tg iter t) (i : ∀ σ H R, t' σ H R → t σ H R) : PI X tg iter t' := fun pins s σ H R I hw => h pins s σ H R I (i σ H R hw)
/-- a list's items -/
def il3 (te : TE3) : TI3 := fun σ H R => te σ H fun x H1 => match x with
  | .ref a => (match H1 a with
    | some (.lst ds) => R ds (fun H' => H' a = some (.lst ds)) H1
    | _ => False)
  | .fl ds => R ds (fun _ => True) H1
  | _ => False
/-- a tuple's items -/
def it3 (te : TE3) : TI3 := fun σ H R => te σ H fun x H1 => match x with
  | .tup ds => R ds (fun _ => True) H1
  | _ => False
theorem itOk_list {K : PySem.W.Frag} {H : Hp} {a : Addr} {ds : List D} : ItOk K H ds (fun H' => H' a = some (.lst ds)) (Itl K a) := fun H3 H' _ hr hk => by
  obtain ⟨vs, ga, ra⟩ := hr a _ hk
  refine ⟨fun i hi => ⟨⟨vs, vs[i]'(by rw [← ra.length]; exact hi), SqL.of ga, by simp⟩, fun x H'' y => ?_⟩, ⟨vs, SqL.of ga, by rw [ra.length]; exact Nat.le_refl _⟩⟩
  obtain ⟨e, y⟩ := y
  subst e
  exact ⟨TK.refl, hr, ra.getV (y vs (SqL.of ga))⟩
theorem itOk_fl {K : PySem.W.Frag} {H : Hp} {a : Addr} {xs : List V} {ds : List D} (ha : FzL K H a xs) (ra : RepL K H ds xs) : ItOk K H ds (fun _ => True) (Itl K a) := fun H3 H' tk hr _ => by
  have hq := (tk.fzL ha).sq
  have ra' := ra.mono tk
  refine ⟨fun i hi => ⟨⟨xs, xs[i]'(by rw [← ra.length]; exact hi), hq, by simp⟩, fun x H'' y => ?_⟩, ⟨xs, hq, by rw [ra.length]; exact Nat.le_refl _⟩⟩
  obtain ⟨e, y⟩ := y
  subst e
  exact ⟨TK.refl, hr, ra'.getV (y xs hq)⟩
theorem i3_list {tg : Expr} (h : PE3 X e te) : PI3 X tg e (il3 te) :=
  pi_imp (pi_list h) fun _ _ _ ⟨σ3, H3, R3, sr, hr, t, k⟩ => ⟨σ3, H3, _, sr, hr, t, fun x v H3a Ha tka hra rx qa => by
    cases rx with
    | ref a =>
      simp only [] at qa
      split at qa
      · rename_i ds ha
        obtain ⟨vs, ga, ra⟩ := hra a _ ha
        exact ⟨a, rfl, ⟨vs, SqL.of ga⟩, k _ _ _ _ _ tka hra itOk_list qa⟩
      · exact qa.elim
    | fl ha ra => exact ⟨_, rfl, ⟨_, ha.sq⟩, k _ _ _ _ _ tka hra (itOk_fl ha ra) qa⟩
    | _ => exact qa.elim⟩
/-- the ints lo, lo + 1, .., n of them -/
def rng (lo : Int) (n : Nat) : List D := (List.range n).map fun (i : Nat) => D.int (lo + (i : Int))
theorem rng_len (lo : Int) (n : Nat) : (rng lo n).length = n := by simp [rng]
theorem rng_get {lo : Int} {n i : Nat} (h : i < n) : (rng lo n)[i]? = some (.int (lo + i)) := by simp [rng, h]
theorem itOk_rng {K : PySem.W.Frag} {H : Hp} {lo : Int} {n : Nat} : ItOk K H (rng lo n) (fun _ => True) (Itr lo n) := fun H3 H' tk hr _ => by
  refine ⟨fun i hi => ?_, ?_⟩
  · rw [rng_len] at hi
    refine ⟨hi, fun x H'' y => ?_⟩
    obtain ⟨e, y⟩ := y
    subst y
    subst e
    exact ⟨TK.refl, hr, _, rng_get hi, .int _⟩
  · rw [rng_len]; exact Nat.le_refl _
def rg1 (x : D) (H : Hp3) (R : List D → (Hp3 → Prop) → Hp3 → Prop) : Prop := match x with
  | .int j => R (rng 0 j.toNat) (fun _ => True) H
  | _ => False
def rg2 (x y : D) (H : Hp3) (R : List D → (Hp3 → Prop) → Hp3 → Prop) : Prop := match x, y with
  | .int i, .int j => R (rng i (j - i).toNat) (fun _ => True) H
  | _, _ => False
def ir1 (ta : TE3) : TI3 := fun σ H R => ta σ H fun x H1 => rg1 x H1 R
def ir2 (ta tb : TE3) : TI3 := fun σ H R => ta σ H fun x H1 => tb σ H1 fun y H2 => rg2 x y H2 R
theorem i3_rng1 {tg a : Expr} {ta : TE3} {p pos : Pos} (hm : X.mg "range" = none) (ha : PE3 X a ta) (hg : Gl X "range" := by rfl) (hs : starEach [a] X.env = [(false, eval a X.env)] := by rfl) (hs' : starEach [a] X.env = (false, eval a X.env) :: starEach [] X.env := by rfl) : PI3 X tg (.Call (.Name "range" p) [a] [] pos) (ir1 ta) :=
  pi_imp (pj_range1 hg hm (a3_cons ha a3_nil hs') hs) fun _ _ _ ⟨σ3, H3, R3, sr, hr, t, k⟩ => by
    refine ⟨σ3, H3, fun ds H1 => (match ds with | [x] => rg1 x H1 R3 | _ => False), sr, hr, t, fun ds vs H3a Ha tka hra rs qa => ?_⟩
    cases rs with
    | nil => exact qa.elim
    | cons r1 r2 =>
      cases r2 with
      | cons _ _ => exact qa.elim
      | nil =>
        cases r1 with
        | int j => exact ⟨j, rfl, k _ _ _ _ _ tka hra itOk_rng qa⟩
        | _ => exact qa.elim
def fo3 (wi : TI3) (g : TG3) (tb : TS3) : TS3 := fun D σ H => wi σ H fun ds keep H1 => ∃ P : Nat → St3 → Hp3 → Prop, P 0 σ H1 ∧ (∀ i σ H, i ≤ ds.length → P i σ H → keep H) ∧
  (∀ i d σ H, ds[i]? = some d → P i σ H → g d σ H fun σ2 H2 => tb { D with nx := P (i + 1), ct := P (i + 1), bk := D.nx } σ2 H2) ∧ ∀ σ H, P ds.length σ H → D.nx σ H
theorem s3_for {tg iter : Expr} {body : List Stmt} {wi : TI3} {g : TG3} {tb : TS3} (hp : PassesOwn (model X.prog X.w) X.A X.env X.xe) (hc : X.calm = true) (hi : PI3 X tg iter wi) (hg : PG3 X tg g) (hb : PSs3 X body tb)
    (hs : ∀ x, foldedSetIterable iter X.env x = pure x := by intro _; rfl) : PS3 X (.For tg iter body [] pos) (fo3 wi g tb) :=
  ps_imp (ps_for hp hc hi hg hb hs) fun D σ H ⟨σ3, H3, D3, sr, hr, t, k⟩ => ⟨σ3, H3, _, sr, hr, t, fun ds keep J H3' H' tk' hr' ok q => by
    obtain ⟨P, p0, pk, pstep, pd⟩ := q
    refine ⟨fun i m σ1 H1 => m = ds.length - i ∧ i ≤ ds.length ∧ ∃ σ31 H31, TK H' H1 ∧ SR X.K H1 σ31 σ1 ∧ HR X.K H31 H1 ∧ P i σ31 H31, ⟨ds.length, by simp, Nat.zero_le _, σ3, H3', TK.refl, sr.mono tk', hr', p0⟩, ?_⟩
    rintro i m σ1 H1 ⟨rfl, hi, σ31, H31, tk1, sr1, hr1, p1⟩
    obtain ⟨go, stop⟩ := ok H31 H1 tk1 hr1 (pk i σ31 H31 hi p1)
    by_cases hlt : i < ds.length
    · obtain ⟨g1, g2⟩ := go i hlt
      refine .inr ⟨g1, fun σ' H'' => i + 1 ≤ ds.length ∧ ∃ σ3' H3'', TK H' H'' ∧ SR X.K H'' σ3' σ' ∧ HR X.K H3'' H'' ∧ P (i + 1) σ3' H3'', fun σ' H'' z => ⟨ds.length - (i + 1), by omega, rfl, z.1, z.2⟩, fun x H'' y => ?_⟩
      obtain ⟨tky, hry, d, ed, rd⟩ := g2 x H'' y
      refine ⟨d, σ31, H31, _, rd, sr1.mono tky, hry, pstep i d σ31 H31 ed p1, fun σ3b σb H3b Hb tkb srb hrb qb => ⟨σ3b, H3b, _, srb, hrb, qb, ?_⟩⟩
      have kk := k.mono (tk'.trans ((tk1.trans tky).trans tkb))
      exact ⟨fun σ3c σc H3c Hc tkc src hrc qc => ⟨hlt, σ3c, H3c, ((tk1.trans tky).trans tkb).trans tkc, src, hrc, qc⟩, kk.rt, kk.nx, fun σ3c σc H3c Hc tkc src hrc qc => ⟨hlt, σ3c, H3c, ((tk1.trans tky).trans tkb).trans tkc, src, hrc, qc⟩⟩
    · have e : i = ds.length := by omega
      subst e
      exact .inl ⟨stop, k.nx _ _ _ _ (tk'.trans tk1) sr1 hr1 (pd σ31 H31 p1)⟩⟩
end

/-! ### defs of the text -/
abbrev Sp3 := List D → Hp3 → VK3 → Prop
def liftF (K : PySem.W.Frag) (sp : Sp3) : Sp := fun vs H Q _ => liftC K sp vs H Q
structure Fn (P : Program) (w : World) (K : PySem.W.Frag) (mg : Str → Option Value) (base : Heap) (k : Nat) (x : Str) (ps : List Str) (sp : Sp3) : Prop where
  ex : ∃ f fd, FnOk P w K mg base CX0 k f fd ps (liftF K sp) ∧ mg x = some (.ref f) ∧ PySem.W.keepIn K (.ref f) = true ∧ Binds K fd ps []
theorem p3_call {X : Cx} {k : Nat} {x : Str} {ps : List Str} {sp : Sp3} {p pos : Pos} {e : Expr} {es : List Expr} {t : TA3} (F : Fn X.prog X.w X.K X.mg X.base k x ps sp) (hr : Room k X.A) (ha : PA3 X (e :: es) t)
    (hg : Gl X x := by rfl) (hdb : (x == ("__debug__" : Str)) = false := by decide) (he : starEach (e :: es) X.env = (false, eval e X.env) :: starEach es X.env := by rfl) (hpl : (backTo pos (starEach es X.env)).any (·.1) = false := by rfl) :
    PE3 X (.Call (.Name x p) (e :: es) [] pos) (cb3 sp t) := by
  obtain ⟨f, fd, F, hm, hk, hb⟩ := F.ex
  refine pe_imp (pe_call (E := E0) F hr hg hm hk hb .nil pass0 ha hdb he hpl) fun _ _ _ h => ?_
  obtain ⟨σ3, H3, Q3, sr, hr, t, k⟩ := h
  exact ⟨σ3, H3, _, sr, hr, t, fun ds vs H3a Ha tka hra rs qa => ⟨ds, H3a, Q3, hra, by rw [List.append_nil]; exact rs, qa, k.mono tka⟩⟩
def start3 (N : List Str) (ds : List D) : St3 := ds.map some ++ List.replicate (N.length - ds.length) none
theorem sr_start {K : PySem.W.Frag} {H : Hp} {N : List Str} {ds : List D} {vs : List V} (r : RepL K H ds vs) : SR K H (start3 N ds) (L2.start N vs) := by
  have hl := r.length
  refine ⟨by simp [start3, L2.start, hl], fun i d h => ?_⟩
  unfold start3 at h
  by_cases hi : i < ds.length
  · rw [List.getElem?_append_left (by simpa using hi), List.getElem?_map] at h
    cases e : ds[i]? with
    | none => rw [e] at h; cases h
    | some d' =>
      rw [e] at h
      cases h
      obtain ⟨v, hv, rv⟩ := r.get e
      refine ⟨v, ?_, rv⟩
      unfold L2.start
      rw [List.getElem?_append_left (by rw [List.length_map, ← hl]; exact hi), List.getElem?_map, hv]
      rfl
  · rw [List.getElem?_append_right (by simpa using hi), List.getElem?_replicate] at h
    split at h <;> cases h
/-- what is wanted behind a body: of the heap a part is enough -/
def fin3 (Q : VK3) : Ends3 := { nx := fun _ H' => ∃ H'', Sub3 H'' H' ∧ Q .non H'', rt := fun d H' => ∃ H'', Sub3 H'' H' ∧ Q d H'' }
theorem fnok3 {P : Program} {w : World} {K : PySem.W.Frag} {mg : Str → Option Value} {base : Heap} {x qual : Str} {st : Stmt} {f : Addr} {fd : FuncData} {N ps : List Str} {k : Nat} {sp : Sp3} (F : Fun K x qual st f fd) (S : FnScope N ps (defScope st))
    (len : ∀ ds H Q, sp ds H Q → ds.length = ps.length)
    (hbody : ∀ (cdv : Value) (A : Around) (outer : List Env) (s : Shared) (H : Hp) (E : XK), Room k (A.deeper (envOfC qual (defScope st) s.heap.objs.size f cdv)) →
      ∃ t, PSs3 (cxOf CX0 P w K mg base N qual (defScope st) f cdv A outer s H E).nox (defBody st) t ∧ ∀ ds H3 Q3, sp ds H3 Q3 → t (fin3 Q3) (start3 N ds) H3) : FnOk P w K mg base CX0 (k + 1) f fd ps (liftF K sp) := by
  refine F.ok S (fun vs H Q E h => ?_) (fun cdv A outer s H vs Q E hr h => ?_)
  · obtain ⟨ds, H3, Q3, _, rs, q, _⟩ := h
    rw [← rs.length]
    exact len ds H3 Q3 q
  · obtain ⟨ds, H3, Q3, hr3, rs, q, k⟩ := h
    obtain ⟨t, ht, hq⟩ := hbody cdv A outer s H E hr
    refine ⟨_, ht, start3 N ds, H3, _, sr_start rs, hr3, hq ds H3 Q3 q, ⟨fun σ3 σ H3' H' tk sr hr' z => ?_, fun d v H3' H' tk hr' rd z => ?_, fun _ _ _ _ _ _ _ z => z.elim, fun _ _ _ _ _ _ _ z => z.elim⟩⟩
    · obtain ⟨H'', sub, q'⟩ := z
      exact k _ _ _ _ tk (hr'.sub sub) .non q'
    · obtain ⟨H'', sub, q'⟩ := z
      exact k _ _ _ _ tk (hr'.sub sub) rd q'
theorem fn3 {P : Program} {w : World} {K : PySem.W.Frag} {mg : Str → Option Value} {base : Heap} {x qual : Str} {st : Stmt} {f : Addr} {fd : FuncData} {N ps : List Str} {k : Nat} {sp : Sp3} (F : Fun K x qual st f fd) (S : FnScope N ps (defScope st))
    (hm : mg x = some (.ref f)) (hb : Binds K fd ps []) (len : ∀ ds H Q, sp ds H Q → ds.length = ps.length)
    (hbody : ∀ (cdv : Value) (A : Around) (outer : List Env) (s : Shared) (H : Hp) (E : XK), Room k (A.deeper (envOfC qual (defScope st) s.heap.objs.size f cdv)) →
      ∃ t, PSs3 (cxOf CX0 P w K mg base N qual (defScope st) f cdv A outer s H E).nox (defBody st) t ∧ ∀ ds H3 Q3, sp ds H3 Q3 → t (fin3 Q3) (start3 N ds) H3) : Fn P w K mg base (k + 1) x ps sp :=
  ⟨f, fd, fnok3 F S len hbody, hm, F.kp, hb⟩
/-- the law's own call: the script is a frozen list of ints -/
theorem start_law {K : PySem.W.Frag} {sp : Sp3} {H : Hp} {a : Addr} {ns : List Int} {E : XK} (hO : Only H) (hS : SqL K H a (ns.map V.int)) (h : sp [.fl (ns.map D.int)] (fun _ => none) (fun d _ => d = .bl true)) : liftF K sp [.ref a] H (fun v _ => v = .bl true) E := by
  refine ⟨[.fl (ns.map D.int)], fun _ => none, fun d _ => d = .bl true, fun b o e => (by cases e), .cons (.fl ?_ (RepL.ints ns)) .nil, h, fun d v H3' H' tk hr rd q => ?_⟩
  · rcases hS with (z | z) | z
    · rcases hO a with q | ⟨o, xs, q⟩
      · rw [z] at q; cases q
      · rw [z] at q; cases q
    · exact .inl z
    · exact .inr z
  · subst q
    cases rd
    rfl
end L3

namespace L3
open PySem PySem.Spec PyProof.Rows L2
/-! ### equality of data -/
def mapO {α β : Type} (f : α → Option β) : List α → Option (List β)
  | [] => some []
  | d :: ds => match f d with
    | none => none
    | some p => match mapO f ds with
      | none => none
      | some ps => some (p :: ps)
def pyN : Nat → D → Option PyData
  | 0, d => match d with
    | .non => some .none
    | .bl b => some (.bool b)
    | .int i => some (.int i)
    | .str x => if PyData.strOk x = true then some (.str x) else none
    | _ => none
  | n + 1, d => match d with
    | .non => some .none
    | .bl b => some (.bool b)
    | .int i => some (.int i)
    | .str x => if PyData.strOk x = true then some (.str x) else none
    | .tup ds => (mapO (pyN n) ds).map .tuple
    | .ktup ds => (mapO (pyN n) ds).map .tuple
    | _ => none
def pyH (H : Hp3) (d : D) : Option PyData := match d with
  | .ref a => (match H a with
    | some (.lst ds) => (mapO (pyN 4) ds).map .list
    | _ => none)
  | .fl ds => (mapO (pyN 4) ds).map .list
  | d => pyN 5 d
section
variable {X : Cx} {pins : List (Addr × Obj)} {σ : St} {H : Hp} {s : Shared}
theorem vals_reads {f : D → Option PyData} {n : Nat} (hf : ∀ {d : D} {v : V} {u : Value} {p : PyData}, Rep X.K H d v → RelV v u → f d = some p → (∃ as, Reads s.heap u p as) ∧ p.canLay0 = true ∧ p.depth ≤ n) :
    ∀ {ds : List D} {vs : List V} {us : List Value} {ps : List PyData}, RepL X.K H ds vs → Vals vs us → mapO f ds = some ps → (∃ as, ReadsAll s.heap us ps as) ∧ PyData.canLayAll0 ps = true ∧ PyData.depthAll ps ≤ n
  | _, _, _, ps, .nil, .nil, h => by
    simp only [mapO, Option.some.injEq] at h
    subst h
    exact ⟨⟨[], .nil⟩, rfl, Nat.zero_le _⟩
  | _, _, _, ps, .cons r rs, .cons q qs, h => by
    simp only [mapO] at h
    split at h
    · cases h
    · rename_i p e1
      split at h
      · cases h
      · rename_i ps' e2
        cases h
        obtain ⟨⟨as, h1⟩, h2, h3⟩ := hf r q e1
        obtain ⟨⟨bs, g1⟩, g2, g3⟩ := vals_reads hf rs qs e2
        refine ⟨⟨_, .cons h1 g1⟩, ?_, ?_⟩
        · simp [PyData.canLayAll0, h2, g2]
        · simp only [PyData.depthAll]; omega
theorem rep_reads (I : Inv X pins σ H s) : ∀ (n : Nat) {d : D} {v : V} {u : Value} {p : PyData}, Rep X.K H d v → RelV v u → pyN n d = some p → (∃ as, Reads s.heap u p as) ∧ p.canLay0 = true ∧ p.depth ≤ n := by
  intro n
  induction n with
  | zero =>
    intro d v u p r q h
    cases r with
    | non => cases h; cases q; exact ⟨⟨_, .none⟩, rfl, Nat.zero_le _⟩
    | bl b => cases h; cases q; exact ⟨⟨_, .bool b⟩, rfl, Nat.zero_le _⟩
    | int i => cases h; obtain ⟨t, rfl⟩ := q; exact ⟨⟨_, .int i t⟩, rfl, Nat.zero_le _⟩
    | str x =>
      simp only [pyN] at h
      split at h
      · rename_i hx
        cases h; obtain ⟨t, rfl⟩ := q; exact ⟨⟨_, .str x t⟩, hx, Nat.zero_le _⟩
      · cases h
    | _ => cases h
  | succ n ih =>
    intro d v u p r q h
    cases r with
    | non => cases h; cases q; exact ⟨⟨_, .none⟩, rfl, Nat.zero_le _⟩
    | bl b => cases h; cases q; exact ⟨⟨_, .bool b⟩, rfl, Nat.zero_le _⟩
    | int i => cases h; obtain ⟨t, rfl⟩ := q; exact ⟨⟨_, .int i t⟩, rfl, Nat.zero_le _⟩
    | str x =>
      simp only [pyN] at h
      split at h
      · rename_i hx
        cases h; obtain ⟨t, rfl⟩ := q; exact ⟨⟨_, .str x t⟩, hx, Nat.zero_le _⟩
      · cases h
    | tup ha ra =>
      simp only [pyN, Option.map_eq_some_iff] at h
      obtain ⟨ps, h1, rfl⟩ := h
      cases q
      obtain ⟨its, rv, ⟨o, ho, hc, m, hd⟩, _⟩ := I.tuple (SqT.of ha)
      obtain ⟨⟨as, g1⟩, g2, g3⟩ := vals_reads (f := pyN n) (n := n) ih ra rv h1
      exact ⟨⟨_, .tuple ho hc hd (by simpa using g1)⟩, g2, by simp only [PyData.depth]; omega⟩
    | ktup ha ra =>
      simp only [pyN, Option.map_eq_some_iff] at h
      obtain ⟨ps, h1, rfl⟩ := h
      cases q
      obtain ⟨its, rv, ⟨o, ho, hc, m, hd⟩, _⟩ := I.tuple ha.sq
      obtain ⟨⟨as, g1⟩, g2, g3⟩ := vals_reads (f := pyN n) (n := n) ih ra rv h1
      exact ⟨⟨_, .tuple ho hc hd (by simpa using g1)⟩, g2, by simp only [PyData.depth]; omega⟩
    | _ => cases h
theorem pyH_reads (I : Inv X pins σ H s) {H3 : Hp3} (hr : HR X.K H3 H) {d : D} {v : V} {u : Value} {p : PyData} (r : Rep X.K H d v) (q : RelV v u) (h : pyH H3 d = some p) : (∃ as, Reads s.heap u p as) ∧ p.canLay0 = true ∧ p.depth ≤ 5 := by
  have lst : ∀ {a : Addr} {xs : List V} {ds : List D}, SqL X.K H a xs → RepL X.K H ds xs → (mapO (pyN 4) ds).map PyData.list = some p → (∃ as, Reads s.heap (.ref a) p as) ∧ p.canLay0 = true ∧ p.depth ≤ 5 := fun hq ra h => by
    simp only [Option.map_eq_some_iff] at h
    obtain ⟨ps, h1, rfl⟩ := h
    obtain ⟨its, rv, pl, _⟩ := I.list hq
    obtain ⟨o, ho, hc, m, hd⟩ := pl.isList
    obtain ⟨⟨as, g1⟩, g2, g3⟩ := vals_reads (f := pyN 4) (n := 4) (rep_reads I 4) ra rv h1
    exact ⟨⟨_, .list ho hc hd (by simpa using g1)⟩, g2, by simp only [PyData.depth]; omega⟩
  cases r with
  | ref a =>
    simp only [pyH] at h
    split at h
    · rename_i ds ha
      obtain ⟨vs, ga, ra⟩ := hr a _ ha
      cases q
      exact lst (SqL.of ga) ra h
    · cases h
  | fl ha ra => cases q; exact lst ha.sq ra h
  | non => exact rep_reads I 5 .non q h
  | bl b => exact rep_reads I 5 (.bl b) q h
  | int b => exact rep_reads I 5 (.int b) q h
  | str b => exact rep_reads I 5 (.str b) q h
  | ty b => exact rep_reads I 5 (.ty b) q h
  | tup a b => exact rep_reads I 5 (.tup a b) q h
  | ktup a b => exact rep_reads I 5 (.ktup a b) q h
end
def r3eq : R3 := fun x y H Q => match pyH H x, pyH H y with
  | some p, some q => Q (.bl (PyData.eqv p q)) H
  | _, _ => False
def r3ne : R3 := fun x y H Q => match pyH H x, pyH H y with
  | some p, some q => Q (.bl (!PyData.eqv p q)) H
  | _, _ => False
section
variable {X : Cx}
theorem op3_eq (hu : X.A.units + 64 < cLine) : OpR X (compareOp .Eq) (lift2 X.K r3eq) := by
  intro pins s σ H x y v u Q I rx ry h
  obtain ⟨dx, dy, H3, Q3, hr, rdx, rdy, t, k⟩ := h
  simp only [r3eq] at t
  split at t
  · rename_i p q e1 e2
    obtain ⟨⟨as, h1⟩, h2, h3⟩ := pyH_reads I hr rdx rx e1
    obtain ⟨⟨bs, g1⟩, g2, g3⟩ := pyH_reads I hr rdy ry e2
    exact SeqAt.compareEq_reads h1 g1 h2 g2 (by have := Nat.min_le_left p.depth q.depth; omega) ⟨.bl _, H, I, rfl, k _ _ _ _ TK.refl hr (.bl _) t⟩
  · exact t.elim
theorem op3_ne (hu : X.A.units + 64 < cLine) : OpR X (compareOp .NotEq) (lift2 X.K r3ne) := by
  intro pins s σ H x y v u Q I rx ry h
  obtain ⟨dx, dy, H3, Q3, hr, rdx, rdy, t, k⟩ := h
  simp only [r3ne] at t
  split at t
  · rename_i p q e1 e2
    obtain ⟨⟨as, h1⟩, h2, h3⟩ := pyH_reads I hr rdx rx e1
    obtain ⟨⟨bs, g1⟩, g2, g3⟩ := pyH_reads I hr rdy ry e2
    exact SeqAt.compareNe_reads h1 g1 h2 g2 (by have := Nat.min_le_left p.depth q.depth; omega) ⟨.bl _, H, I, rfl, k _ _ _ _ TK.refl hr (.bl _) t⟩
  · exact t.elim
/-! ### in -/
/-- the items of a list or tuple -/
def seqH (H : Hp3) (d : D) : Option (List D) := match d with
  | .ref a => (match H a with
    | some (.lst ds) => some ds
    | _ => none)
  | .fl ds => some ds
  | .tup ds => some ds
  | _ => none
def r3in (neg : Bool) : R3 := fun x y H Q => match pyN 4 x, (seqH H y).bind (mapO (pyN 4)) with
  | some p, some ps => Q (.bl (if neg then !ps.any (fun q => PyData.eqv q p) else ps.any fun q => PyData.eqv q p)) H
  | _, _ => False
open Classical in
noncomputable def inE (h : Heap) (p : PyData) (u : Value) : Bool := decide (∃ q as, Reads h u q as ∧ q.canLay0 = true ∧ PyData.eqv q p = true)
open Classical in
theorem inE_eq {h : Heap} {p q : PyData} {u : Value} {as : List Addr} (r : Reads h u q as) (c : q.canLay0 = true) : inE h p u = PyData.eqv q p := by
  unfold inE
  cases e : PyData.eqv q p with
  | true => exact decide_eq_true ⟨q, as, r, c, e⟩
  | false =>
    refine decide_eq_false fun z => ?_
    obtain ⟨q', as', r', c', e'⟩ := z
    have z := SeqAt.Reads.unique q q' u as as' c r r'
    subst z
    rw [e] at e'
    cases e'
theorem in_items {pins : List (Addr × Obj)} {σ : St} {H : Hp} {s : Shared} (I : Inv X pins σ H s) (p : PyData) :
    ∀ {ds : List D} {vs : List V} {us : List Value} {ps : List PyData}, RepL X.K H ds vs → Vals vs us → mapO (pyN 4) ds = some ps →
      us.any (inE s.heap p) = ps.any (fun q => PyData.eqv q p) ∧ ∀ u ∈ us, ∃ q as, Reads s.heap u q as ∧ q.canLay0 = true ∧ q.depth ≤ 4
  | _, _, _, ps, .nil, .nil, h => by
    simp only [mapO, Option.some.injEq] at h
    subst h
    exact ⟨rfl, fun _ z => nomatch z⟩
  | _, _, _, ps, .cons r rs, .cons q qs, h => by
    simp only [mapO] at h
    split at h
    · cases h
    · rename_i p' e1
      split at h
      · cases h
      · rename_i ps' e2
        cases h
        obtain ⟨⟨as, h1⟩, h2, h3⟩ := rep_reads I 4 r q e1
        obtain ⟨g1, g2⟩ := in_items I p rs qs e2
        refine ⟨by rw [List.any_cons, List.any_cons, inE_eq h1 h2, g1], fun u hu => ?_⟩
        rcases List.mem_cons.mp hu with e | hu
        · rw [e]; exact ⟨_, _, h1, h2, h3⟩
        · exact g2 u hu
theorem in_at {A : Around} {pins : List (Addr × Obj)} {σ : St} {H : Hp} {s : Shared} (I : Inv X pins σ H s) (hu : A.units + 8 < cLine) {x : D} {vx : V} {ux : Value} {p : PyData} (rx : Rep X.K H x vx) (qx : RelV vx ux) (ex : pyN 4 x = some p)
    {us : List Value} (h : ∀ u ∈ us, ∃ q as, Reads s.heap u q as ∧ q.canLay0 = true ∧ q.depth ≤ 4) : ∀ u, u ∈ us.toArray → SeqAt.EqAt A s u ux (inE s.heap p u) := fun u hm => by
  obtain ⟨q, as, h1, h2, h3⟩ := h u (by simpa using hm)
  obtain ⟨⟨bs, g1⟩, g2, g3⟩ := rep_reads I 4 rx qx ex
  rw [inE_eq h1 h2]
  exact SeqAt.eqAt_reads _ _ A s _ _ _ _ h1 g1 h2 g2 (by have := Nat.min_le_left q.depth p.depth; omega)
theorem in1_units {A : Around} (h : A.units + 64 < cLine) : A.in1.units + 8 < cLine := by
  have e : A.in1.units = A.units + 1 := rfl
  omega
theorem op3_notIn (hu : X.A.units + 64 < cLine) : OpR X (compareOp .NotIn) (lift2 X.K (r3in true)) := by
  intro pins s σ H x y v u Q I rx ry h
  obtain ⟨dx, dy, H3, Q3, hr, rdx, rdy, t, k⟩ := h
  simp only [r3in] at t
  split at t
  · rename_i p ps e1 e2
    simp only [Option.bind_eq_some_iff] at e2
    obtain ⟨ds, e2, e3⟩ := e2
    have fin := k _ _ _ _ TK.refl hr (.bl _) t
    cases rdy with
    | ref a =>
      simp only [seqH] at e2
      split at e2
      · rename_i ds' ha
        cases e2
        obtain ⟨vs, ga, ra⟩ := hr a _ ha
        cases ry
        obtain ⟨its, rv, pl, _⟩ := I.list (SqL.of ga)
        obtain ⟨g1, g2⟩ := in_items I p ra rv e3
        refine SeqAt.notIn_listAt (inE s.heap p) pl.isList (in_at I (in1_units hu) rdx rx e1 g2) ⟨.bl _, H, I, rfl, ?_⟩
        rw [show its.toArray.any (inE s.heap p) = its.any (inE s.heap p) by simp, g1]
        exact fin
      · cases e2
    | fl ha ra =>
      cases e2
      cases ry
      obtain ⟨its, rv, pl, _⟩ := I.list ha.sq
      obtain ⟨g1, g2⟩ := in_items I p ra rv e3
      refine SeqAt.notIn_listAt (inE s.heap p) pl.isList (in_at I (in1_units hu) rdx rx e1 g2) ⟨.bl _, H, I, rfl, ?_⟩
      rw [show its.toArray.any (inE s.heap p) = its.any (inE s.heap p) by simp, g1]
      exact fin
    | tup ha ra =>
      cases e2
      cases ry
      obtain ⟨its, rv, pl, _⟩ := I.tuple (SqT.of ha)
      obtain ⟨g1, g2⟩ := in_items I p ra rv e3
      refine SeqAt.notIn_tupleAt (inE s.heap p) pl (in_at I (in1_units hu) rdx rx e1 g2) ⟨.bl _, H, I, rfl, ?_⟩
      rw [show its.toArray.any (inE s.heap p) = its.any (inE s.heap p) by simp, g1]
      exact fin
    | _ => cases e2
  · exact t.elim

/-! ### isinstance -/
def tyH (H : Hp3) (d : D) : Option String := match d with
  | .non => some "NoneType"
  | .bl _ => some "bool"
  | .int _ => some "int"
  | .str _ => some "str"
  | .tup _ => some "tuple"
  | .fl _ => some "list"
  | .ref a => (match H a with
    | some (.lst _) => some "list"
    | some (.dic _) => some "dict"
    | some (.ins _ _) => none
    | some (.exc _) => none
    | none => none)
  | .ty _ => none
  | .ktup _ => some "tuple"
def isT (U T : String) : Bool := U == T || (U == "bool" && T == "int")
def kinds : List String := ["int", "bool", "str", "tuple", "list", "dict"]
def r3isi : List D → Hp3 → VK3 → Prop := fun ds H Q => match ds with
  | [x, .ty T] => (match tyH H x with
    | some U => T ∈ kinds ∧ Q (.bl (isT U T)) H
    | none => False)
  | _ => False
theorem kit_ok (K : PySem.W.Frag) (U T : String) (hU : U ∈ "NoneType" :: kinds) (hT : T ∈ kinds) : PySem.W.kitOne K (.type U) (.type T) = some (isT U T) := by
  simp only [kinds, List.mem_cons, List.not_mem_nil, or_false] at hU hT
  rcases hU with rfl | rfl | rfl | rfl | rfl | rfl | rfl <;> rcases hT with rfl | rfl | rfl | rfl | rfl | rfl <;> kernel_rfl
theorem cb3_isi : CallR X (.builtin "isinstance") (liftC X.K r3isi) := by
  intro pins s σ H xs us Q I rs h
  obtain ⟨ds, H3, Q3, hr, rd, t, k⟩ := h
  cases rd with
  | nil => exact t.elim
  | cons r1 r2 =>
    cases r2 with
    | nil => cases r1 <;> exact t.elim
    | cons r2 r3 =>
      cases r3 with
      | cons _ _ => cases r1 <;> cases r2 <;> exact t.elim
      | nil =>
        cases r2 with
        | ty T =>
          obtain ⟨u, w, rfl, ru, rw'⟩ := vals2 rs
          obtain rfl : w = Value.type T := rw'
          simp only [r3isi] at t
          split at t
          · rename_i U eU
            obtain ⟨hT, t⟩ := t
            have fin : ∀ tk, EP X pins σ Q (.bool (isT U T)) { s with toks := tk } := fun tk => ⟨.bl _, H, I.tok tk, rfl, k _ _ _ _ TK.refl hr (.bl _) t⟩
            have e : ∀ (hU : U ∈ "NoneType" :: kinds), PySem.W.kitOne X.K (.type U) (.type T) = some (isT U T) := fun hU => kit_ok X.K U T hU hT
            cases r1 with
            | non => cases eU; exact isinst_ok I ru (.non) (e (by simp)) fin
            | bl b => cases eU; exact isinst_ok I ru (.bl b) (e (by simp [kinds])) fin
            | int b => cases eU; exact isinst_ok I ru (.int b) (e (by simp [kinds])) fin
            | str b => cases eU; exact isinst_ok I ru (.str b) (e (by simp [kinds])) fin
            | ty b => cases eU
            | tup ha ra =>
              cases eU
              cases ru
              obtain ⟨its, _, ⟨o, h1, h2, _⟩, _⟩ := I.tuple (SqT.of ha)
              exact PySem.W.kia_one PySem.W.kitx_tuple I.kIn ⟨o, h1, h2⟩ (e (by simp [kinds])) (fun z => nomatch z) fin
            | ktup ha ra =>
              cases eU
              cases ru
              obtain ⟨its, _, ⟨o, h1, h2, _⟩, _⟩ := I.tuple ha.sq
              exact PySem.W.kia_one PySem.W.kitx_tuple I.kIn ⟨o, h1, h2⟩ (e (by simp [kinds])) (fun z => nomatch z) fin
            | fl ha ra =>
              cases eU
              cases ru
              obtain ⟨its, _, pl, _⟩ := I.list ha.sq
              obtain ⟨o, h1, h2, _⟩ := pl.isList
              exact PySem.W.kia_one PySem.W.kitx_list I.kIn ⟨o, h1, h2⟩ (e (by simp [kinds])) (fun z => nomatch z) fin
            | ref a =>
              simp only [tyH] at eU
              split at eU
              · rename_i ds ha
                cases eU
                obtain ⟨vs, ga, ra⟩ := hr a _ ha
                exact isinst_ok I ru (.lst ga) (e (by simp [kinds])) fin
              · rename_i ds ha
                cases eU
                obtain ⟨vs, ga, ra⟩ := hr a _ ha
                exact isinst_ok I ru (.dT ga) (e (by simp [kinds])) fin
              · cases eU
              · cases eU
              · cases eU
          · exact t.elim
        | _ => cases r1 <;> exact t.elim

/-! ### a list's methods -/
def m3 (r : D → List D → Hp3 → VK3 → Prop) (to : TE3) (t : TA3) : TE3 := fun σ H Q => to σ H fun x H1 => (match x with
  | .ref a => (match H1 a with
    | some (.lst _) => t σ H1 fun xs H2 => r x xs H2 Q
    | _ => False)
  | _ => False)
theorem p3_bm {o e : Expr} {es : List Expr} {to : TE3} {t : TA3} {name : Str} {apos cpos : Pos} {id : String} {r : D → List D → Hp3 → VK3 → Prop} (slot : Slot "list" name id) (hty : typeOf (.builtin id) = pure (.type "method_descriptor")) (hm : MtR X id (liftM X.K r)) (ho : PE3 X o to) (ha : PA3 X (e :: es) t)
    (hbase : attributeBase o name X.env (eval o X.env) = eval o X.env := by rfl)
    (hfew : ((backTo cpos (starEach (e :: es) X.env)).all (fun x => !x.1) && (backToKw cpos (keywordEach [] X.env)).all (fun x => x.1.isSome)
      && decide ((e :: es).length + ([] : List Keyword).length + (if ([] : List Keyword).isEmpty then 0 else 1) < 30)) = true := by rfl)
    (hline : (apos.endLine == cpos.line) = true := by rfl) (hs : starEach (e :: es) X.env = (false, eval e X.env) :: starEach es X.env := by rfl) (hplain : (backTo cpos (starEach es X.env)).any (·.1) = false := by rfl) :
    PE3 X (.Call (.Attribute o name apos) (e :: es) [] cpos) (m3 r to t) :=
  pe_imp (pe_bm PySem.F.plainAttrs_list slot hty hm ho ha hbase hfew hline hs hplain) fun _ _ _ ⟨σ3, H3, Q3, sr, hr, t, k⟩ => ⟨σ3, H3, _, sr, hr, t, fun x v H3a Ha tka hra rx qa => by
    cases rx with
    | ref a =>
      simp only [] at qa
      split at qa
      · rename_i ds ha
        obtain ⟨vs, ga, ra⟩ := hra a _ ha
        exact ⟨.inl ⟨rfl, vs, SqL.of ga⟩, σ3, H3a, _, sr.mono tka, hra, qa, fun ds us H3b Hb tkb hrb rs qb => ⟨.ref a, ds, H3b, Q3, hrb, .ref a, rs, qb, k.mono (tka.trans tkb)⟩⟩
      · exact qa.elim
    | _ => exact qa.elim⟩
theorem p3_bm0 {o : Expr} {to : TE3} {name : Str} {apos cpos : Pos} {id : String} {r : D → List D → Hp3 → VK3 → Prop} (slot : Slot "list" name id) (hty : typeOf (.builtin id) = pure (.type "method_descriptor")) (hm : MtR X id (liftM X.K r)) (ho : PE3 X o to)
    (hbase : attributeBase o name X.env (eval o X.env) = eval o X.env := by rfl) (hline : (apos.endLine == cpos.line) = true := by rfl) :
    PE3 X (.Call (.Attribute o name apos) [] [] cpos) (m3 r to nil3) :=
  pe_imp (pe_bm0 PySem.F.plainAttrs_list slot hty hm ho hbase hline) fun _ _ _ ⟨σ3, H3, Q3, sr, hr, t, k⟩ => ⟨σ3, H3, _, sr, hr, t, fun x v H3a Ha tka hra rx qa => by
    cases rx with
    | ref a =>
      simp only [] at qa
      split at qa
      · rename_i ds ha
        obtain ⟨vs, ga, ra⟩ := hra a _ ha
        exact ⟨.inl ⟨rfl, vs, SqL.of ga⟩, .ref a, [], H3a, Q3, hra, .ref a, .nil, qa, k.mono tka⟩
      · exact qa.elim
    | _ => exact qa.elim⟩
def r3app : D → List D → Hp3 → VK3 → Prop := fun x xs H Q => match x, xs with
  | .ref a, [y] => (match H a with
    | some (.lst ds) => ds.length < sizeLine ∧ Q .non (upd3 H a (.lst (ds ++ [y])))
    | _ => False)
  | _, _ => False
theorem mt3_app : MtR X "list.append" (liftM X.K r3app) := by
  intro pins s σ H x xs v us Q I rx rs h
  obtain ⟨d, ds, H3, Q3, hr, rd, rds, t, k⟩ := h
  cases rd with
  | ref a =>
    cases rds with
    | nil => exact t.elim
    | cons r1 r2 =>
      cases r2 with
      | cons _ _ => exact t.elim
      | nil =>
        simp only [r3app] at t
        split at t
        · rename_i ds ha
          obtain ⟨vs, ga, ra⟩ := hr a _ ha
          exact mt_append pins s σ H _ _ v us Q I rx rs ⟨a, vs, _, rfl, rfl, ga, by rw [← ra.length]; exact t.1, k _ _ _ _ (TK.lst ga) (hr.setL (TK.lst ga) ((ra.snoc r1).mono (TK.lst ga))) .non t.2⟩
        · exact t.elim
  | _ => exact t.elim
def r3clr : D → List D → Hp3 → VK3 → Prop := fun x xs H Q => match x, xs with
  | .ref a, [] => (match H a with
    | some (.lst _) => Q .non (upd3 H a (.lst []))
    | _ => False)
  | _, _ => False
theorem mt3_clr : MtR X "list.clear" (liftM X.K r3clr) := by
  intro pins s σ H x xs v us Q I rx rs h
  obtain ⟨d, ds, H3, Q3, hr, rd, rds, t, k⟩ := h
  cases rd with
  | ref a =>
    cases rds with
    | cons _ _ => exact t.elim
    | nil =>
      simp only [r3clr] at t
      split at t
      · rename_i ds ha
        obtain ⟨vs, ga, ra⟩ := hr a _ ha
        exact mt_clear pins s σ H _ _ v us Q I rx rs ⟨a, vs, rfl, rfl, ga, k _ _ _ _ (TK.lst ga) (hr.setL (TK.lst ga) (.nil)) .non t⟩
      · exact t.elim
  | _ => exact t.elim
end
end L3

namespace L3
open PySem PySem.Spec PyProof.Rows L2
/-! ### list comprehensions -/
/-- the cells that a block takes with it -/
theorem closure_ok {scope : Scope} {env : Env} (h : ∀ y, (y, NameKind.free) ∈ scope.names → ∃ c, env.cells.lookup y = some c) :
    ∃ cl, closureFor scope env = pure cl ∧ (∀ y c, cl.lookup y = some c → env.cells.lookup y = some c) ∧ ∀ y, (y, NameKind.free) ∈ scope.names → ∃ c, cl.lookup y = some c := by
  have go : ∀ (names : List (Str × NameKind)) (cs : List (Str × Addr)), (∀ y, (y, NameKind.free) ∈ names → ∃ c, env.cells.lookup y = some c) → (∀ y c, cs.lookup y = some c → env.cells.lookup y = some c) →
      ∃ cl, (forIn (m := Sem) names cs fun (x : Str × NameKind) r => match x with
        | (name, kind) => if (kind == NameKind.free) = true then do let c ← cellOf env name; pure (ForInStep.yield ((name, c) :: r)) else pure (ForInStep.yield r)) = pure cl ∧
        (∀ y c, cl.lookup y = some c → env.cells.lookup y = some c) ∧ (∀ y, (y, NameKind.free) ∈ names → ∃ c, cl.lookup y = some c) ∧ ∀ y c, cs.lookup y = some c → ∃ c', cl.lookup y = some c' := by
    intro names
    induction names with
    | nil => intro cs _ h2; exact ⟨cs, rfl, h2, (fun _ z => nomatch z), fun y c e => ⟨c, e⟩⟩
    | cons x r ih =>
      intro cs h1 h2
      obtain ⟨n, k⟩ := x
      by_cases hk : k = NameKind.free
      · subst hk
        obtain ⟨c, hc⟩ := h1 n List.mem_cons_self
        have ec : cellOf env n = pure c := by unfold cellOf; rw [hc]
        have h2' : ∀ y c', ((n, c) :: cs).lookup y = some c' → env.cells.lookup y = some c' := fun y c' e => by
          rw [List.lookup_cons] at e
          split at e
          · rename_i he
            cases e
            rw [eq_of_beq he]; exact hc
          · exact h2 y c' e
        obtain ⟨cl, e1, e2, e3, e4⟩ := ih ((n, c) :: cs) (fun y hy => h1 y (List.mem_cons_of_mem _ hy)) h2'
        have hn : ∃ c', cl.lookup n = some c' := e4 n c (by rw [List.lookup_cons]; simp)
        refine ⟨cl, ?_, e2, fun y hy => ?_, fun y c' e => ?_⟩
        · rw [List.forIn_cons]
          simp only [beq_self_eq_true, if_true, ec]
          exact e1
        · rcases List.mem_cons.mp hy with z | z
          · cases z; exact hn
          · exact e3 y z
        · by_cases hy : y = n
          · rw [hy]; exact hn
          · exact e4 y c' (by rw [List.lookup_cons, beq_eq_false_iff_ne.mpr hy]; exact e)
      · have hb : (k == NameKind.free) = false := by simpa using hk
        obtain ⟨cl, e1, e2, e3, e4⟩ := ih cs (fun y hy => h1 y (List.mem_cons_of_mem _ hy)) h2
        refine ⟨cl, ?_, e2, fun y hy => ?_, e4⟩
        · rw [List.forIn_cons]
          simp only [hb, Bool.false_eq_true, if_false]
          exact e1
        · rcases List.mem_cons.mp hy with z | z
          · cases z; exact absurd rfl hk
          · exact e3 y z
  obtain ⟨cl, e1, e2, e3, _⟩ := go scope.names [] h (fun _ _ e => by simp at e)
  refine ⟨cl, ?_, e2, e3⟩
  unfold closureFor
  refine Eq.trans (congrArg (fun t => t >>= fun cs => pure cs) e1) ?_
  rfl

theorem comp_loop {prog : Program} {w : World} {A : Around} {R : Result → Shared → Prop} {s : Shared} {elt target iter : Expr} {ifs : List Expr} {scope : Scope} {pos : Pos} {it acc : Value} {env : Env} (I : Nat → Shared → Prop)
    (turn : ∀ n s, I n s → wpAny (model prog w) A (pyNext it) (fun r s₁ => match r with
      | none => R (.ok .next) s₁
      | some v => wpAny (model prog w) A (letOwnedTupleGo target it v) (fun _ s₁' => wpAny (model prog w) A (assign target env v) (fun _ s₂ =>
          wpAny (model prog w) A (forIn ifs true fun c r => if r = true then do let ok ← isTrue c env (eval c env); pure (ForInStep.yield ok) else pure (ForInStep.yield r)) (fun ok s₃ =>
            if ok = true then wpAny (model prog w) A (eval elt env) (fun x s₄ =>
              wpAny (model prog w) A (call (.builtin "list.append") [acc, x]) (fun _ s₅ => ∃ m, m < n ∧ I m s₅) (fun _ _ => False) s₄) (fun _ _ => False) s₃
            else ∃ m, m < n ∧ I m s₃) (fun _ _ => False) s₂) (fun _ _ => False) s₁') (fun _ _ => False) s₁) (fun _ _ => False) s)
    (n : Nat) (h : I n s) :
    codeAny (model prog w) A (.compLoop (.ListComp elt [⟨target, iter, ifs, 0⟩] scope pos) 0 it acc env) R s := by
  refine codeAny_loop rfl I (fun n s hI => ?_) n h
  show wpAny _ A ((compTurn (.ListComp elt [⟨target, iter, ifs, 0⟩] scope pos) 0 it acc env).onRaise (fun x => do noteFrame x env; theTreesLotGoes x)) _ _ s
  refine wpAny_noted ?_
  rw [compTurn_list]
  refine wpAny_bind (wpAny_standAt (wpAny_bind (wpAny_mono (turn n s hI) (fun r s₁ h₁ => ?_) fun _ _ h' => h'.elim)))
  cases r with
  | none => exact wpAny_pure h₁
  | some v =>
    refine wpAny_bind (wpAny_mono h₁ (fun _ s₁' h₁' => ?_) fun _ _ h' => h'.elim)
    refine wpAny_bind (wpAny_mono h₁' (fun _ s₂ h₂ => wpAny_bind (wpAny_mono h₂ (fun ok s₃ h₃ => ?_) fun _ _ h' => h'.elim)) fun _ _ h' => h'.elim)
    cases ok with
    | false => exact wpAny_pure ⟨rfl, h₃⟩
    | true =>
      exact wpAny_bind (wpAny_bind (wpAny_mono h₃ (fun x s₄ h₄ => wpAny_bind (wpAny_mono h₄ (fun _ s₅ h₅ => wpAny_pure (wpAny_pure ⟨rfl, h₅⟩)) fun _ _ h' => h'.elim)) fun _ _ h' => h'.elim))

/-- the block's context: own names N', entered at s₁ with the heap H₁; fp: what the iterator is made of; pins: what must stand -/
def cxC (X : Cx) (N' : List Str) (scope : Scope) (cl : List (Str × Addr)) (s₁ : Shared) (H₁ : Hp) (fp : List Addr) (pins : List (Addr × Obj)) : Cx where
  prog := X.prog
  w := X.w
  K := X.K
  mg := X.mg
  base := X.base
  A := X.A
  N := N'
  s₀ := s₁
  H₀ := H₁
  env := compEnvC scope cl s₁.heap.objs.size X.env
  outer := X.stack
  stack := X.stack
  ex := fp
  fn := fun _ => false
  calm := X.calm
  pn := X.pn ++ pins
  xe := fun _ _ => False

/-- the names that the block reads from the def round it: slot of the def, name -/
abbrev FV := List (Nat × Str)
/-- the kinds of the block's names, by the def's scope round it -/
def relS (scope sc : Scope) : Scope := { scope with names := scope.names.map fun (n, k) => if (k == .free && sc.kind == .function && sc.names.lookup n == some .cell) then (n, .cell) else (n, k) }
structure CompOk (sc : Scope) (N : List Str) (scope : Scope) (N' : List Str) (own : List Str) (fv : FV) : Prop where
  kind : scope.kind = .function
  nocell : ∀ y ∈ scope.names, y.2 ≠ .cell
  loc : ∀ y ∈ scope.names, y.2 = .local → scope.names.lookup y.1 = some .local
  fre' : ∀ y ∈ scope.names, y.2 = .free → sc.names.lookup y.1 = some .cell
  eqN : N' = own ++ fv.map (·.2)
  nd : N'.Nodup
  slot : ∀ p ∈ fv, N[p.1]? = some p.2 ∧ sc.names.lookup p.2 = some .cell ∧ (relS scope sc).names.lookup p.2 = some .cell
theorem CompOk.fre {sc scope : Scope} {N N' own : List Str} {fv : FV} (c : CompOk sc N scope N' own fv) : ∀ y, (y, NameKind.free) ∈ scope.names → sc.names.lookup y = some .cell := fun y hy => c.fre' _ hy rfl

/-- the frame of the block at its start: own names unset, the others as round it -/
def blk (own : List Str) (fv : FV) (σ : St) : St := own.map (fun _ => none) ++ fv.map fun p => (σ[p.1]?).join

theorem rel_lookup {scope : Scope} {env : Env} : ∀ {names : List (Str × NameKind)} {y : Str} {k : NameKind},
    (names.map fun (n, k) => if (k == NameKind.free && env.scope.kind == .function && env.kindOf n == some .cell) then (n, NameKind.cell) else (n, k)).lookup y = some k → k = .cell ∨ k = .free → (∀ z ∈ names, z.2 ≠ .cell) → (y, NameKind.free) ∈ names
  | [], _, _, h, _, _ => by simp at h
  | (n, k0) :: r, y, k, h, hk, hc => by
    rw [List.map_cons] at h
    by_cases hf : k0 = NameKind.free
    · by_cases hy : y = n
      · subst hy; subst hf; exact List.mem_cons_self
      · refine List.mem_cons_of_mem _ (rel_lookup (env := env) (scope := scope) (k := k) ?_ hk fun z hz => hc z (List.mem_cons_of_mem _ hz))
        dsimp only at h
        have hyb : (y == n) = false := beq_eq_false_iff_ne.mpr hy
        split at h <;> (rw [List.lookup_cons, hyb] at h; exact h)
    · have hb : (k0 == NameKind.free) = false := by simpa using hf
      simp only [hb, Bool.false_and, Bool.false_eq_true, if_false] at h
      rw [List.lookup_cons] at h
      by_cases hy : y = n
      · subst hy
        simp only [beq_self_eq_true] at h
        cases h
        rcases hk with z | z
        · exact absurd z (hc _ List.mem_cons_self)
        · exact absurd z hf
      · have hyb : (y == n) = false := beq_eq_false_iff_ne.mpr hy
        rw [hyb] at h
        exact List.mem_cons_of_mem _ (rel_lookup (env := env) (scope := scope) (k := k) h hk fun z hz => hc z (List.mem_cons_of_mem _ hz))

section
variable {X : Cx} {pins : List (Addr × Obj)} {σ : St} {H₁ : Hp} {s₁ s₂ : Shared} {scope : Scope} {cl : List (Str × Addr)} {N' own : List Str} {fv : FV} {fp : List Addr}
theorem cxC_ok (I : Inv X pins σ H₁ s₁) (c : CompOk X.env.scope X.N scope N' own fv) (h1 : ∀ y c, cl.lookup y = some c → X.env.cells.lookup y = some c) (h2 : ∀ y, (y, NameKind.free) ∈ scope.names → ∃ c, cl.lookup y = some c)
    (hf : ∀ b ∈ fp, FpOk X pins H₁ b ∧ b < s₁.heap.objs.size) : (cxC X N' scope cl s₁ H₁ fp pins).Ok where
  mod := I.ok.mod
  kind := c.kind
  glob := I.ok.glob
  blt := I.ok.blt
  above := Nat.le_refl _
  inj := fun x y a e1 e2 => I.ok.inj x y a (h1 x a e1) (h1 y a e2)
  has := fun x hx => by
    have hx' : (relabel scope X.env).names.lookup x = some .cell ∨ (relabel scope X.env).names.lookup x = some .free := hx
    rcases hx' with z | z
    · exact h2 x (rel_lookup (scope := scope) (env := X.env) z (.inl rfl) c.nocell)
    · exact h2 x (rel_lookup (scope := scope) (env := X.env) z (.inr rfl) c.nocell)
  cab := fun x a e => by cases e
  hd := I.ok.hd
  frames := I.ok.frames
  stk := .inl rfl
  exf := fun b hb => ⟨Nat.ne_of_lt (hf b hb).2, fun x a e => (hf b hb).1.2.2.2.2.1 x a (h1 x a e)⟩
  bs := I.bs
  bsz := Nat.le_trans I.ok.bsz I.sz
  noex := fun b o e hb => by
    rcases (hf b hb).1.2.2.2.1 with z | z
    · exact I.ok.noex b o e z
    · exact absurd (Nat.lt_of_lt_of_le (Heap.lt_size (I.ok.bs b o e).1) z) (Nat.lt_irrefl _)
  exfs := fun b hb hm => by
    rcases List.mem_cons.mp (I.stkSub b hm) with z | z
    · exact (hf b hb).1.2.1 z
    · exact (hf b hb).1.2.2.1 z
  funs := I.stack
  frf := I.stkFree
theorem blk_len : (blk own fv σ).length = (own ++ fv.map (·.2)).length := by simp [blk]
/-- the block is entered -/
theorem inv_block (I : Inv X pins σ H₁ s₁) (c : CompOk X.env.scope X.N scope N' own fv) (h1 : ∀ y c, cl.lookup y = some c → X.env.cells.lookup y = some c) (h2 : ∀ y, (y, NameKind.free) ∈ scope.names → ∃ c, cl.lookup y = some c)
    (hf : ∀ b ∈ fp, FpOk X pins H₁ b ∧ b < s₁.heap.objs.size) {h' : Heap} {m : Str → Option Value} {tk : Nat} (hn : h'.Ns s₁.heap.objs.size m) (kp : ∀ b o, s₁.heap.get? b = some o → h'.get? b = some o) :
    Inv (cxC X N' scope cl s₁ H₁ fp pins) [] (blk own fv σ) H₁ { s₁ with heap := h', toks := tk } where
  ok := cxC_ok I c h1 h2 hf
  os := rfl
  bare := I.bare
  base := Un.kept kp
  loc := by
    refine ⟨m, hn, fun i x v e1 e2 e3 => ?_⟩
    have e1' : (own ++ fv.map (·.2))[i]? = some x := by rw [← c.eqN]; exact e1
    have hi : ¬ i < own.length := fun hi => by
      unfold blk at e2
      rw [List.getElem?_append_left (by simpa using hi), List.getElem?_map] at e2
      cases z : own[i]? with
      | none => rw [z] at e2; cases e2
      | some y => rw [z] at e2; cases e2
    unfold blk at e2
    rw [List.getElem?_append_right (by simpa using hi), List.length_map, List.getElem?_map] at e2
    rw [List.getElem?_append_right (by simpa using hi), List.getElem?_map] at e1'
    cases z : fv[i - own.length]? with
    | none => rw [z] at e2; cases e2
    | some p =>
      rw [z] at e2 e1'
      have ex : p.2 = x := Option.some.inj e1'
      subst ex
      obtain ⟨g1, g2, g3⟩ := c.slot p (List.mem_of_getElem? z)
      have e2' : (σ[p.1]?).join = some v := Option.some.inj e2
      have e2'' : σ[p.1]? = some (some v) := by
        cases q : σ[p.1]? with
        | none => rw [q] at e2'; cases e2'
        | some o => rw [q] at e2'; rw [show o = some v from e2']
      obtain ⟨m0, hn0, hl0⟩ := I.loc
      obtain ⟨u, ru, lu⟩ := hl0 p.1 p.2 v g1 e2'' (.inr (.inl g2))
      refine ⟨u, ru, .inr ⟨.inl g3, ?_⟩⟩
      rcases lu with ⟨k, _⟩ | ⟨_, cc, ec, ic⟩
      · exact absurd (show X.env.scope.names.lookup p.2 = some NameKind.local from k) (by rw [g2]; intro z; cases z)
      · have hfree : (p.2, NameKind.free) ∈ scope.names := rel_lookup (scope := scope) (env := X.env) g3 (.inl rfl) c.nocell
        obtain ⟨c', ec'⟩ := h2 _ hfree
        have := h1 _ _ ec'
        rw [ec] at this
        cases this
        obtain ⟨o, ho, hd⟩ := ic
        exact ⟨cc, ec', o, kp _ _ ho, hd⟩
  cell := fun x a e => by
    obtain ⟨v, o, ho, hd⟩ := I.cell x a (h1 x a e)
    exact ⟨v, o, kp _ _ ho, hd⟩
  free := I.hok.fresh (Nat.le_refl _)
  freeC := fun x a e => I.freeC x a (h1 x a e)
  pin := fun p hp => by
    rw [List.append_nil] at hp
    obtain ⟨g1, g2, g3, g4, g5⟩ := I.pin p hp
    refine ⟨kp _ _ g1, g2, Nat.ne_of_lt (Heap.lt_size g1), fun hm => ?_, g5⟩
    rcases List.mem_cons.mp (I.stkSub p.1 hm) with z | z
    · exact g3 z
    · exact g4 z
  hok := I.hok.kept kp
  len := by rw [blk_len, ← c.eqN]; rfl
/-- behind the block -/
theorem inv_left {σ' : St} {H' : Hp} (I : Inv X pins σ H₁ s₁) (hf : ∀ b ∈ fp, FpOk X pins H₁ b ∧ b < s₁.heap.objs.size) (J : Inv (cxC X N' scope cl s₁ H₁ fp pins) [] σ' H' s₂) :
    Inv X pins σ H' s₂ ∧ FpOk X pins H' s₁.heap.objs.size ∧ ∃ m, s₂.heap.Ns s₁.heap.objs.size m := by
  have I2 : Inv X pins σ H' s₂ := I.call' (ch := fp) J.os J.base J.hok J.bare fun b hb => ⟨(hf b hb).1.2.2.2.1, (hf b hb).1.2.1, (hf b hb).1.2.2.2.2.1, (hf b hb).1.2.2.2.2.2⟩
  obtain ⟨m, hn, _⟩ := J.loc
  exact ⟨I2, ⟨J.free, (I.fpOk (H' := H') (Nat.le_refl _) J.free).2⟩, m, hn⟩
end

/-- the tests of a comprehension: none, or one -/
def PIfs (X : Cx) (ifs : List Expr) (t : TT) : Prop := ∀ (pins : List (Addr × Obj)) (s : Shared) (σ : St) (H : Hp) (Q : Bool → Hp → Prop), Inv X pins σ H s → t σ H Q →
  wpAny (model X.prog X.w) X.A (forIn ifs true fun c r => if r = true then do let ok ← isTrue c X.env (eval c X.env); pure (ForInStep.yield ok) else pure (ForInStep.yield r)) (TP X pins σ Q) X.xe s
theorem pifs_nil {X : Cx} : PIfs X [] (fun _ H Q => Q true H) := fun _ _ _ H _ I h => wpAny_tests_nil ⟨H, I, h⟩
theorem pifs_one {X : Cx} {c : Expr} {t : TT} (h : PT X c t) : PIfs X [c] t := fun pins s σ H Q I hw => wpAny_tests_one (h pins s σ H Q I hw)

/-- the reading: at each turn the item is stored, tested, the element put behind the list at p -/
def tComp (wi : TI) (g : TG) (tc : TT) (te : TE) (own : List Str) (fv : FV) : TE := fun σ H Q => wi σ H fun J H1 => ∀ p, H1 p = none → ∃ W : Nat → Nat → Hp → Prop, (∃ m, W 0 m (upd H1 p (.lst []))) ∧ ∀ i m H2, W i m H2 →
  (J.stop i H2 ∧ Q (.ref p) H2) ∨ (J.go i H2 ∧ ∀ x H3, J.yld i H2 x H3 → g x (blk own fv σ) H3 fun σ2 H4 => tc σ2 H4 fun b H5 => if b = true then te σ2 H5 fun v H6 => ∃ acc, H6 p = some (.lst acc) ∧ acc.length < sizeLine ∧
    ∃ m', m' < m ∧ W (i + 1) m' (upd H6 p (.lst (acc ++ [v]))) else ∃ m', m' < m ∧ W (i + 1) m' H5)

theorem comp_core {X : Cx} {pins : List (Addr × Obj)} {σ : St} {H : Hp} {s : Shared} {elt target iter : Expr} {ifs : List Expr} {scope : Scope} {pos fpos : Pos} {N' own : List Str} {fv : FV} {wi : TI} {g : TG} {tc : TT} {te : TE} {R : VK} {use : Option (Value → Sem Unit)} {Q' : Value → Shared → Prop}
    (c : CompOk X.env.scope X.N scope N' own fv) (hcalm : X.calm = true) (hi : PI X target iter wi)
    (hgk : ∀ x σ H Q, g x σ H Q → g x σ H fun σ' H' => (σ'.length = σ.length ∧ ∀ i, own.length ≤ i → σ'[i]? = σ[i]?) ∧ Q σ' H')
    (hb : ∀ cl s₁ H₁ fp, PG (cxC X N' scope cl s₁ H₁ fp pins) target g ∧ PIfs (cxC X N' scope cl s₁ H₁ fp pins) ifs tc ∧ PE (cxC X N' scope cl s₁ H₁ fp pins) elt te)
    (hs : ∀ x, foldedSetIterable iter X.env x = pure x) (I : Inv X pins σ H s) (h : tComp wi g tc te own fv σ H R)
    (fin : ∀ (p C : Addr) (H' : Hp) (s' : Shared) (m : Str → Option Value), Inv X pins σ H' s' → FpOk X pins H' C → s'.heap.Ns C m → R (.ref p) H' → compPost (model X.prog X.w) X.A X.xe use Q' (.ref p) C (.ok .next) s') :
    wpAny (model X.prog X.w) X.A (comprehension (.ListComp elt [⟨target, iter, ifs, 0⟩] scope pos) scope X.env fpos (newList []) false (eval iter X.env) use) Q' X.xe s := by
  obtain ⟨cl, hclos, h1, h2⟩ := closure_ok (scope := scope) (env := X.env) fun y hy => I.ok.has y (.inl (c.fre y hy))
  refine wpAny_comprehension_free (use := use) rfl hs hclos c.kind c.loc (wpAny_mono (hi pins s σ H _ I h) (fun v s1 h1' => wpAny_mono h1' (fun itv s2 h2' => ?_) fun _ _ e => e) fun _ _ e => e)
  obtain ⟨it, fp, tn, J, H2, rfl, I2, T, st2, f2, q2⟩ := h2'
  refine wpAny_newObj_type ?_
  -- the list
  have I3 : Inv X pins σ (upd H2 s2.heap.objs.size (.lst [])) { s2 with heap := s2.heap.push { cls := .type "list", data := .seq ([] : List Value).toArray } } := I2.lnew (t' := s2.toks) (ys := []) (its := []) .nil (Nat.zero_le _)
  have np : H2 s2.heap.objs.size = none := I2.fresh
  generalize hs3 : ({ s2 with heap := s2.heap.push { cls := .type "list", data := .seq ([] : List Value).toArray } } : Shared) = s3 at I3
  have e3 : s3.heap = s2.heap.push { cls := .type "list", data := .seq ([] : List Value).toArray } := by rw [← hs3]
  have old3 : ∀ b o, s2.heap.get? b = some o → s3.heap.get? b = some o := fun b o e => by rw [e3]; exact Heap.get?_push_of_some _ e
  have f3 : ∀ b ∈ fp, FpOk X pins (upd H2 s2.heap.objs.size (.lst [])) b ∧ b < s3.heap.objs.size := fun b hb => by
    obtain ⟨o, ho, _⟩ := T.obj 0 _ st2 b hb
    have hlt := Heap.lt_size ho
    refine ⟨⟨?_, (f2 b hb).2⟩, Heap.lt_size (old3 b o ho)⟩
    rw [upd_ne (Nat.ne_of_lt hlt)]
    exact (f2 b hb).1
  have st3 : tn 0 s3.heap := T.keep 0 _ _ st2 fun b hb o e => old3 b o e
  refine wpAny_newFunctionEnv c.nocell (by intro y hy; simp at hy) (fun h' hns hsb => ?_) c.kind
  have kp : ∀ b o, s3.heap.get? b = some o → h'.get? b = some o := fun b o e => (hsb.2 b (Nat.ne_of_lt (Heap.lt_size e))).trans (Heap.get?_push_of_some _ e)
  have J0 : Inv (cxC X N' scope cl s3 (upd H2 s2.heap.objs.size (.lst [])) fp pins) [] (blk own fv σ) (upd H2 s2.heap.objs.size (.lst [])) { s3 with heap := h', toks := s3.toks + ([] : List (Str × Value)).length } := inv_block I3 c h1 h2 f3 hns kp
  have st4 : tn 0 h' := T.keep 0 _ _ st3 fun b hb o e => kp b o e
  obtain ⟨W, ⟨m0, w0⟩, turn⟩ := q2 s2.heap.objs.size np
  obtain ⟨hg, hifs, helt⟩ := hb cl s3 (upd H2 s2.heap.objs.size (.lst [])) fp
  have noP : ∀ b ∈ fp, b ≠ s3.heap.objs.size := fun b hb => Nat.ne_of_lt (f3 b hb).2
  have stat : ∀ {H' : Hp}, (∀ b ∈ fp, H' b = none) → ∀ b ∈ fp, FpOk (cxC X N' scope cl s3 (upd H2 s2.heap.objs.size (.lst [])) fp pins) [] H' b := fun hn b hb => by
    obtain ⟨⟨_, g1, g2, g3, g4, g5⟩, g6⟩ := f3 b hb
    refine ⟨hn b hb, Nat.ne_of_lt g6, fun hm => ?_, .inl hb, fun x a e => g4 x a (h1 x a e), fun p hp => g5 p (by simpa [cxC] using hp)⟩
    rcases List.mem_cons.mp (I3.stkSub b hm) with z | z
    · exact g1 z
    · exact g2 z
  have loop : codeAny (model X.prog X.w) X.A (.compLoop (.ListComp elt [⟨target, iter, ifs, 0⟩] scope pos) 0 (.ref it) (.ref s2.heap.objs.size) (compEnvC scope cl s3.heap.objs.size X.env))
      (compPost (model X.prog X.w) X.A X.xe use Q' (.ref s2.heap.objs.size) s3.heap.objs.size) { s3 with heap := h', toks := s3.toks + ([] : List (Str × Value)).length } := by
    refine comp_loop (fun n s' => ∃ i H' σ', Inv (cxC X N' scope cl s3 (upd H2 s2.heap.objs.size (.lst [])) fp pins) [] (blk own fv σ) H' s' ∧ σ' = blk own fv σ ∧ tn i s'.heap ∧ (∀ b ∈ fp, H' b = none) ∧ W i n H') ?_ m0 ⟨0, _, _, J0, rfl, st4, fun b hb => (f3 b hb).1.1, w0⟩
    rintro n s5 ⟨i, H5, _, J5, rfl, st5, fr5, w5⟩
    rcases turn i n H5 w5 with ⟨stop, qn⟩ | ⟨go, step⟩
    · refine thn (T.done (cxC X N' scope cl s3 (upd H2 s2.heap.objs.size (.lst [])) fp pins) rfl rfl rfl hcalm i [] s5 _ H5 _ J5 (stat fr5) st5 stop) fun r s6 hr => ?_
      obtain ⟨rfl, J6⟩ := hr
      obtain ⟨I6, f6, m6, n6⟩ := inv_left I3 f3 J6
      exact fin _ _ H5 s6 m6 I6 f6 n6 qn
    · refine thn (T.item (cxC X N' scope cl s3 (upd H2 s2.heap.objs.size (.lst [])) fp pins) rfl rfl rfl hcalm i [] s5 _ H5 _ J5 (stat fr5) st5 go) fun r s6 hr => ?_
      obtain ⟨u, rfl, h6⟩ := hr
      refine thn h6 fun _ s7 h7 => ?_
      obtain ⟨x, H7, J7, r7, y7, st7, fr7⟩ := h7
      have J7' := J7.pinned (stat fr7) (T.obj _ _ st7)
      refine thn (hg _ s7 _ H7 x u _ J7' r7 (hgk _ _ _ _ (step x H7 y7))) fun _ s8 h8 => ?_
      obtain ⟨σ8, H8, J8, ⟨l8, k8⟩, q8⟩ := h8
      refine thn (hifs _ s8 σ8 H8 _ J8 q8) fun ok s9 h9 => ?_
      obtain ⟨H9, J9, q9⟩ := h9
      have weak : ∀ {H' : Hp} {s' : Shared}, Inv (cxC X N' scope cl s3 (upd H2 s2.heap.objs.size (.lst [])) fp pins) ([] ++ pinsAt fp s7.heap) σ8 H' s' →
          Inv (cxC X N' scope cl s3 (upd H2 s2.heap.objs.size (.lst [])) fp pins) [] (blk own fv σ) H' s' ∧ tn (i + 1) s'.heap ∧ ∀ b ∈ fp, H' b = none := fun {H' s'} J' => by
        refine ⟨J'.unpinned.weak l8.symm fun j v e => ?_, T.keep _ _ _ st7 fun b hb o e => (J'.pin (b, o) (List.mem_append_right _ (List.mem_append_right _ (mem_pinsAt hb e)))).1, fun b hb => ?_⟩
        · have hj : own.length ≤ j := Nat.le_of_not_lt fun hj => by
            unfold blk at e
            rw [List.getElem?_append_left (by simpa using hj), List.getElem?_map] at e
            cases z : own[j]? with
            | none => rw [z] at e; cases e
            | some y => rw [z] at e; cases e
          rw [k8 j hj]; exact e
        · obtain ⟨o, e, d⟩ := T.obj _ _ st7 b hb
          exact (J'.pin (b, o) (List.mem_append_right _ (List.mem_append_right _ (mem_pinsAt hb e)))).2.1
      cases ok with
      | false =>
        rw [if_neg Bool.false_ne_true] at q9 ⊢
        obtain ⟨m', hm, w9⟩ := q9
        obtain ⟨g1, g2, g3⟩ := weak J9
        exact ⟨m', hm, i + 1, H9, _, g1, rfl, g2, g3, w9⟩
      | true =>
        rw [if_pos rfl] at q9 ⊢
        refine thn (helt _ s9 σ8 H9 _ J9 q9) fun xv s10 h10 => ?_
        obtain ⟨v, H10, J10, r10, acc, ea, hl, m', hm, w10⟩ := h10
        refine thn (mt_append _ s10 σ8 H10 (.ref s2.heap.objs.size) [v] (.ref s2.heap.objs.size) [xv] (fun z H' => z = .non ∧ H' = upd H10 s2.heap.objs.size (.lst (acc ++ [v]))) J10 rfl (.cons r10 .nil) ⟨_, acc, v, rfl, rfl, ea, hl, rfl, rfl⟩) fun _ s11 h11 => ?_
        obtain ⟨z, H11, J11, _, _, rfl⟩ := h11
        obtain ⟨g1, g2, g3⟩ := weak J11
        exact ⟨m', hm, i + 1, _, _, g1, rfl, g2, g3, w10⟩
  exact codeAny_compStart_list loop (T.self X.A 0 _ _ _ st4 loop)

theorem pe_comp {X : Cx} {elt target iter : Expr} {ifs : List Expr} {scope : Scope} {pos : Pos} {N' own : List Str} {fv : FV} {wi : TI} {g : TG} {tc : TT} {te : TE}
    (c : CompOk X.env.scope X.N scope N' own fv) (hcalm : X.calm = true) (hi : PI X target iter wi)
    (hgk : ∀ x σ H Q, g x σ H Q → g x σ H fun σ' H' => (σ'.length = σ.length ∧ ∀ i, own.length ≤ i → σ'[i]? = σ[i]?) ∧ Q σ' H')
    (hb : ∀ pins cl s₁ H₁ fp, PG (cxC X N' scope cl s₁ H₁ fp pins) target g ∧ PIfs (cxC X N' scope cl s₁ H₁ fp pins) ifs tc ∧ PE (cxC X N' scope cl s₁ H₁ fp pins) elt te)
    (hs : ∀ x, foldedSetIterable iter X.env x = pure x := by intro _; rfl) : PE X (.ListComp elt [⟨target, iter, ifs, 0⟩] scope pos) (tComp wi g tc te own fv) := by
  intro pins s σ H Q I h
  rw [eval_ListComp]
  refine comp_core (use := none) (R := Q) c hcalm hi hgk (hb pins) hs I h fun p C H' s' m J f n q => ?_
  refine ⟨m, n, fun h' hs' => ⟨.ref p, H', J.turned (t' := s'.toks) (it := C) (fun b o hb e => (hs'.2 b hb).trans e) f.1 f.2.1 f.2.2.2.1 f.2.2.2.2.1 f.2.2.2.2.2, rfl, q⟩⟩

/-! ### .. over data -/
/-- the results, item by item: none where the test says no. The elements leave the heap -/
def cp3 (wi : TI3) (g : TG3) (tc : TT3) (te : TE3) (own : List Str) (fv : FV) : TE3 := fun σ H Q => wi σ H fun ds keep H1 => (∀ H2 : Hp3, Sub3 H1 H2 → keep H2) ∧ ds.length ≤ 1000 ∧ ∃ rs : List (Option D), rs.length = ds.length ∧
  (∀ (i : Nat) (d : D), ds[i]? = some d → ∀ H2 : Hp3, Sub3 H1 H2 → g d (own.map (fun _ => none) ++ fv.map fun p => (σ[p.1]?).join) H2 fun σ2 H4 => tc σ2 H4 fun b H5 =>
    if b = true then te σ2 H5 fun v H6 => Sub3 H2 H6 ∧ rs[i]? = some (some v) else Sub3 H2 H5 ∧ rs[i]? = some none) ∧
  ∀ p, H1 p = none → Q (.ref p) (upd3 H1 p (.lst (rs.filterMap id)))
theorem sr_blk {K : PySem.W.Frag} {H : Hp} {σ3 : St3} {σ : St} {own : List Str} {fv : FV} (s : SR K H σ3 σ) : SR K H (own.map (fun _ => none) ++ fv.map fun p => (σ3[p.1]?).join) (blk own fv σ) := by
  refine ⟨by simp [blk], fun i d h => ?_⟩
  have hi : ¬ i < own.length := fun hi => by
    rw [List.getElem?_append_left (by simpa using hi), List.getElem?_map] at h
    cases z : own[i]? with
    | none => rw [z] at h; cases h
    | some y => rw [z] at h; cases h
  rw [List.getElem?_append_right (by simpa using hi), List.length_map, List.getElem?_map] at h
  unfold blk
  rw [List.getElem?_append_right (by simpa using hi), List.length_map, List.getElem?_map]
  cases z : fv[i - own.length]? with
  | none => rw [z] at h; cases h
  | some p =>
    rw [z] at h
    have h' : (σ3[p.1]?).join = some d := Option.some.inj h
    have e : σ3[p.1]? = some (some d) := by
      cases q : σ3[p.1]? with
      | none => rw [q] at h'; cases h'
      | some o => rw [q] at h'; rw [show o = some d from h']
    obtain ⟨v, hv, rv⟩ := s.get _ _ e
    exact ⟨v, by show some (σ[p.1]?).join = some (some v); rw [hv]; rfl, rv⟩
theorem filterMap_take_succ {rs : List (Option D)} {i : Nat} {o : Option D} (h : rs[i]? = some o) : (rs.take (i + 1)).filterMap id = (rs.take i).filterMap id ++ o.toList := by
  rw [List.take_add_one, h, List.filterMap_append]
  cases o <;> rfl
theorem lift_comp {K : PySem.W.Frag} {wi : TI3} {g : TG3} {g2 : TG} {tc : TT3} {te : TE3} {own : List Str} {fv : FV} {σ : St} {H : Hp} {Q : VK} (hgr : ∀ v σ H Q, liftG K g v σ H Q → g2 v σ H Q) (h : liftE K (cp3 wi g tc te own fv) σ H Q) : tComp (liftI K wi) g2 (liftT K tc) (liftE K te) own fv σ H Q := by
  obtain ⟨σ3, H3, Q3, sr, hr, t, k⟩ := h
  refine ⟨σ3, H3, _, sr, hr, t, fun ds keep J H3' H' tk' hr' ok q p np => ?_⟩
  obtain ⟨hkeep, hlen, rs, hrl, hel, hfin⟩ := q
  have np3 : H3' p = none := hr'.fresh np
  have hrs : ∀ i, ((rs.take i).filterMap id).length ≤ i := fun i => Nat.le_trans (List.length_filterMap_le _ _) (by rw [List.length_take]; omega)
  refine ⟨fun i m H2 => m = ds.length - i ∧ i ≤ ds.length ∧ TK H' H2 ∧ HR K (upd3 H3' p (.lst ((rs.take i).filterMap id))) H2, ⟨ds.length, by simp, Nat.zero_le _, TK.fresh np, hr'.setL (TK.fresh np) (.nil)⟩, ?_⟩
  rintro i m H2 ⟨rfl, hi, tk2, hr2⟩
  have sub2 : Sub3 H3' (upd3 H3' p (.lst ((rs.take i).filterMap id))) := Sub3.fresh np3
  obtain ⟨go, stop⟩ := ok _ H2 tk2 hr2 (hkeep _ sub2)
  by_cases hlt : i < ds.length
  · obtain ⟨g1, g2⟩ := go i hlt
    refine .inr ⟨g1, fun x H2' y => ?_⟩
    obtain ⟨tky, hry, d, ed, rd⟩ := g2 x H2' y
    replace tk2 := tk2.trans tky
    refine hgr _ _ _ _ ⟨d, _, _, _, rd, (sr_blk sr).mono (tk'.trans tk2), hry, hel i d ed _ sub2, fun σ3a σa H3a Ha tka sra hra qa => ⟨σ3a, H3a, _, sra, hra, qa, fun b H3b Hb tkb hrb qb => ?_⟩⟩
    cases b with
    | true =>
      rw [if_pos rfl] at qb ⊢
      refine ⟨σ3a, H3b, _, sra.mono tkb, hrb, qb, fun v u H3c Hc tkc hrc rv qc => ?_⟩
      obtain ⟨sub, ers⟩ := qc
      obtain ⟨acc, gacc, racc⟩ := hrc p _ (sub p _ upd3_same)
      refine ⟨acc, gacc, ?_, ds.length - (i + 1), by omega, rfl, hlt, ((tk2.trans tka).trans (tkb.trans tkc)).trans (TK.lst gacc), ?_⟩
      · rw [← racc.length]
        exact small1000 (Nat.le_trans (hrs i) (Nat.le_trans hi hlen))
      · rw [filterMap_take_succ ers, ← upd3_upd3]
        exact (hrc.sub sub).setL (TK.lst gacc) ((racc.snoc rv).mono (TK.lst gacc))
    | false =>
      rw [if_neg Bool.false_ne_true] at qb ⊢
      obtain ⟨sub, ers⟩ := qb
      refine ⟨ds.length - (i + 1), by omega, rfl, hlt, (tk2.trans tka).trans tkb, ?_⟩
      rw [filterMap_take_succ ers]
      simp only [Option.toList, List.append_nil]
      exact hrb.sub sub
  · have e : i = ds.length := by omega
    subst e
    refine .inl ⟨stop, k _ _ _ _ (tk'.trans tk2) hr2 (.ref p) ?_⟩
    rw [List.take_of_length_le (by rw [hrl]; exact Nat.le_refl _)]
    exact hfin p np3
def yes3 : TT3 := fun _ H Q => Q true H
def PIfs3 (X : Cx) (ifs : List Expr) (t : TT3) : Prop := PIfs X ifs (liftT X.K t)
theorem ifs3_nil {X : Cx} : PIfs3 X [] yes3 := fun pins s σ H Q I h => by
  obtain ⟨σ3, H3, Q3, sr, hr, t, k⟩ := h
  exact pifs_nil pins s σ H Q I (k _ _ _ TK.refl hr t)
theorem ifs3_one {X : Cx} {c : Expr} {t : TT3} (h : PT3 X c t) : PIfs3 X [c] t := pifs_one h
theorem gr_name {K : PySem.W.Frag} {i : Nat} : ∀ v σ H Q, liftG K (gn3 i) v σ H Q → gName i v σ H Q := fun _ _ _ _ ⟨_, _, _, _, rd, sr, hr, t, k⟩ => k _ _ _ _ TK.refl (sr.set i rd) hr t
theorem gk_name {n i : Nat} (hi : i < n) : ∀ x σ H Q, gName i x σ H Q → gName i x σ H fun σ' H' => (σ'.length = σ.length ∧ ∀ j, n ≤ j → σ'[j]? = σ[j]?) ∧ Q σ' H' := fun x σ H Q h =>
  ⟨⟨by simp, fun j hj => List.getElem?_set_ne (by omega)⟩, h⟩
section
variable {X : Cx} {elt iter : Expr} {ifs : List Expr} {scope : Scope} {pos px py pt spos : Pos} {x x' y : Str} {fv : FV} {wi : TI3} {tc : TT3} {te : TE3} {kk : Nat}
/-- [elt for x in iter if ..] -/
theorem p3_comp (c : CompOk X.env.scope X.N scope (x :: fv.map (·.2)) [x] fv) (hcalm : X.calm = true) (hi : PI3 X (.Name x px) iter wi)
    (hifs : ∀ pins cl s₁ H₁ fp, PIfs3 (cxC X (x :: fv.map (·.2)) scope cl s₁ H₁ fp pins) ifs tc) (helt : ∀ pins cl s₁ H₁ fp, PE3 (cxC X (x :: fv.map (·.2)) scope cl s₁ H₁ fp pins) elt te)
    (hx : (relabel scope X.env).names.lookup x = some .local := by rfl) (hs : ∀ x, foldedSetIterable iter X.env x = pure x := by intro _; rfl) : PE3 X (.ListComp elt [⟨.Name x px, iter, ifs, 0⟩] scope pos) (cp3 wi (gn3 0) tc te [x] fv) :=
  pe_imp (pe_comp (g := gName 0) (tc := liftT X.K tc) (te := liftE X.K te) c hcalm hi (gk_name (Nat.zero_lt_one)) (fun pins cl s₁ H₁ fp => ⟨pg_name c.nd rfl (.inl hx) (.inr hx), hifs pins cl s₁ H₁ fp, helt pins cl s₁ H₁ fp⟩) hs) fun _ _ _ h => lift_comp gr_name h
end
end L3

namespace L3
open PySem L2
def i3sub : R3 := rI30 fun i j => .int (i - j)
def i3mul : R3 := rI3 CMul fun i j => .int (i * j)
def i3div : R3 := rI3 CDiv fun i j => .int (i / j)
def i3mod : R3 := rI3 (fun _ j => 0 < j) fun i j => .int (i % j)
def i3pow : R3 := rI3 CPow fun i j => .int (i ^ j.toNat)
def i3le : R3 := rI30 fun i j => .bl (decide (i ≤ j))
def i3gt : R3 := rI30 fun i j => .bl (decide (j < i))
def i3ge : R3 := rI30 fun i j => .bl (decide (j ≤ i))
theorem intsOf_map : ∀ ns : List Int, intsOf (ns.map D.int) = some ns
  | [] => rfl
  | n :: ns => by simp only [List.map_cons, intsOf, intsOf_map ns, Option.map_some]
abbrev Pt := Int × Int
def prP (p : Pt) : D := .tup [.int p.1, .int p.2]
def ptsOf : List D → Option (List Pt)
  | [] => some []
  | .tup [.int x, .int y] :: ds => (ptsOf ds).map ((x, y) :: ·)
  | _ :: _ => none
/-! ### the order of pairs: the second number first -/
def ltc (c r : Pt) : Bool := HT.lexLt [r.2, r.1] [c.2, c.1]
def insP (row : List Pt) (c : Pt) : List Pt := row.takeWhile (ltc c) ++ c :: row.dropWhile (ltc c)
def isort (ps : List Pt) : List Pt := ps.foldl insP []
/-- the key of a pair: its numbers the other way round -/
def KeyOk (sp : Sp3) : Prop := ∀ (c : Pt) (H3 : Hp3) (Q3 : VK3), Q3 (.tup [.int c.2, .int c.1]) H3 → sp [prP c] H3 Q3
def sok (sp : Sp3) (x : D) (H1 : Hp3) (Q : VK3) : Prop := match x with
  | .ref a => (match H1 a with
    | some (.lst ds) => (match ptsOf ds with
      | some ps => KeyOk sp ∧ ps.length < 64 ∧ ∀ p, H1 p = none → Q (.ref p) (upd3 H1 p (.lst ((isort ps).map prP)))
      | none => False)
    | _ => False)
  | _ => False
def so3 (sp : Sp3) (te : TE3) : TE3 := fun σ H Q => te σ H fun x H1 => sok sp x H1 Q
end L3

namespace L3
open PySem PySem.Spec PyProof.Rows L2
section
variable {X : Cx}
/-! ### insert -/
/-! ### min, max of a list of ints -/
end
end L3

namespace L3
open PySem L2
/-! ### steps: a rule for each reading, from its head on -/
theorem sizeLine_n : sizeLine = 16777216 := by decide
theorem small1000' {n : Nat} (h : n ≤ 1000) : n < sizeLine := by rw [sizeLine_n]; omega
theorem upd3_old {H : Hp3} {a p : Addr} {o u : O3} (h : H a = some o) (n : H p = none) : upd3 H p u a = some o := by rw [upd3_ne (ne3 h n)]; exact h
theorem sub_upd {H H2 : Hp3} {p : Addr} {o : O3} (s : Sub3 H H2) (h : H2 p = some o) : Sub3 (upd3 H p o) H2 := fun b u e => by
  by_cases hb : b = p
  · subst hb; rw [upd3_same] at e; cases e; exact h
  · rw [upd3_ne hb] at e; exact s b u e
theorem sub_back {H H2 : Hp3} {p : Addr} (s : Sub3 H H2) (h : H2 p = none) : H p = none := by
  cases e : H p with
  | none => rfl
  | some o => have := s p o e; rw [h] at this; cases this
section
variable {σ : St3} {H : Hp3} {Q : VK3} {D0 : Ends3} {i j : Int} {a b : Addr} {d x y : D} {ds es : List D} {ta tb te tc : TE3} {tr : TA3} {t u : TS3} {cA cB : TT3} {QL : List D → Hp3 → Prop} {QB : Bool → Hp3 → Prop}
theorem g_v3 {k : Nat} (h : σ[k]? = some (some d)) (q : Q d H) : v3 k σ H Q := by unfold v3; rw [h]; exact q
theorem g_c3 (q : Q d H) : c3 d σ H Q := q
theorem g_o3 {r : R3} (h : ta σ H fun x H1 => tb σ H1 fun y H2 => r x y H2 Q) : o3 r ta tb σ H Q := h
theorem g_u3 {r : D → Hp3 → VK3 → Prop} (h : ta σ H fun x H1 => r x H1 Q) : u3 r ta σ H Q := h
theorem g_neg (q : Q (.int (-i)) H) : r3neg (.int i) H Q := q
theorem g_sub (q : Q (.int (i - j)) H) : i3sub (.int i) (.int j) H Q := q
theorem g_add (q : Q (.int (i + j)) H) : r3add (.int i) (.int j) H Q := q
theorem g_cat (ha : H a = some (.lst ds)) (hb : H b = some (.lst es)) (hl : ds.length + es.length ≤ sizeLine) (q : ∀ p, H p = none → Q (.ref p) (upd3 H p (.lst (ds ++ es)))) : r3add (.ref a) (.ref b) H Q := by
  simp only [r3add, ha, hb]; exact ⟨hl, q⟩
theorem g_mul (c : CMul i j) (q : Q (.int (i * j)) H) : i3mul (.int i) (.int j) H Q := ⟨c, q⟩
theorem g_div (c : CDiv i j) (q : Q (.int (i / j)) H) : i3div (.int i) (.int j) H Q := ⟨c, q⟩
theorem g_mod (c : 0 < j) (q : Q (.int (i % j)) H) : i3mod (.int i) (.int j) H Q := ⟨c, q⟩
theorem g_pow (c : CPow i j) (q : Q (.int (i ^ j.toNat)) H) : i3pow (.int i) (.int j) H Q := ⟨c, q⟩
theorem g_le (q : Q (.bl (decide (i ≤ j))) H) : i3le (.int i) (.int j) H Q := q
theorem g_gt (q : Q (.bl (decide (j < i))) H) : i3gt (.int i) (.int j) H Q := q
theorem g_ge (q : Q (.bl (decide (j ≤ i))) H) : i3ge (.int i) (.int j) H Q := q
theorem g_lt (q : Q (.bl (decide (i < j))) H) : r3lt (.int i) (.int j) H Q := q
theorem g_ltT {x1 x2 y1 y2 : Int} (q : Q (.bl (HT.lexLt [x1, x2] [y1, y2])) H) : r3lt (.tup [.int x1, .int x2]) (.tup [.int y1, .int y2]) H Q := q
theorem g_eqI (q : Q (.bl (decide (i = j))) H) : r3eq (.int i) (.int j) H Q := by
  have e : (i == j) = decide (i = j) := rfl
  simp only [r3eq, pyH, pyN, PyData.eqv, e]; exact q
theorem g_neI (q : Q (.bl (!decide (i = j))) H) : r3ne (.int i) (.int j) H Q := by
  have e : (i == j) = decide (i = j) := rfl
  simp only [r3ne, pyH, pyN, PyData.eqv, e]; exact q
theorem g_eqP {x1 x2 y1 y2 : Int} (q : Q (.bl (decide ((x1, x2) = (y1, y2)))) H) : r3eq (.tup [.int x1, .int x2]) (.tup [.int y1, .int y2]) H Q := by
  have e : (PyData.eqvAll [.int x1, .int x2] [.int y1, .int y2]) = decide ((x1, x2) = (y1, y2)) := by
    simp only [PyData.eqvAll, PyData.eqv, Bool.and_true, Prod.mk.injEq, Bool.decide_and]; rfl
  simp only [r3eq, pyH, pyN, mapO, Option.map_some, PyData.eqv, e]; exact q
theorem g_neP {x1 x2 y1 y2 : Int} (q : Q (.bl (!decide ((x1, x2) = (y1, y2)))) H) : r3ne (.tup [.int x1, .int x2]) (.tup [.int y1, .int y2]) H Q := by
  have e : (PyData.eqvAll [.int x1, .int x2] [.int y1, .int y2]) = decide ((x1, x2) = (y1, y2)) := by
    simp only [PyData.eqvAll, PyData.eqv, Bool.and_true, Prod.mk.injEq, Bool.decide_and]; rfl
  simp only [r3ne, pyH, pyN, mapO, Option.map_some, PyData.eqv, e]; exact q
theorem g_isN (q : Q (.bl (isN x)) H) : r3isN x .non H Q := q
theorem g_notN (q : Q (.bl (!isN x)) H) : r3notN x .non H Q := q
theorem g_ixT (h : atI ds i = some d) (q : Q d H) : r3ix (.tup ds) (.int i) H Q := by simp only [r3ix, h]; exact q
theorem g_ixF (h : atI ds i = some d) (q : Q d H) : r3ix (.fl ds) (.int i) H Q := by simp only [r3ix, h]; exact q
theorem g_ixL (ha : H a = some (.lst ds)) (h : atI ds i = some d) (q : Q d H) : r3ix (.ref a) (.int i) H Q := by simp only [r3ix, ha, h]; exact q
theorem g_ts (h : te σ H fun d H1 => bt d H1 QB) : ts3 te σ H QB := h
theorem g_bt {k : Bool} (q : QB k H) : bt (.bl k) H QB := q
theorem g_an (h : cA σ H fun c H1 => if c = true then cB σ H1 QB else QB false H1) : an3 cA cB σ H QB := h
theorem g_or (h : cA σ H fun c H1 => if c = true then QB true H1 else cB σ H1 QB) : or3 cA cB σ H QB := h
theorem g_no (h : cA σ H fun c H1 => QB (!c) H1) : no3 cA σ H QB := h
def avk (tb : TE3) (σ : St3) (x : D) (H1 : Hp3) (Q : VK3) : Prop := match x with
  | .bl c => if c = true then tb σ H1 Q else Q (.bl false) H1
  | _ => False
def ovk (tb : TE3) (σ : St3) (x : D) (H1 : Hp3) (Q : VK3) : Prop := match x with
  | .bl c => if c = true then Q (.bl true) H1 else tb σ H1 Q
  | _ => False
def nvk (x : D) (H1 : Hp3) (Q : VK3) : Prop := match x with
  | .bl c => Q (.bl (!c)) H1
  | _ => False
theorem g_av (h : ta σ H fun x H1 => avk tb σ x H1 Q) : av3 ta tb σ H Q := h
theorem g_avk {c : Bool} (h : if c = true then tb σ H Q else Q (.bl false) H) : avk tb σ (.bl c) H Q := h
theorem g_ov (h : ta σ H fun x H1 => ovk tb σ x H1 Q) : ov3 ta tb σ H Q := h
theorem g_ovk {c : Bool} (h : if c = true then Q (.bl true) H else tb σ H Q) : ovk tb σ (.bl c) H Q := h
theorem g_nv (h : ta σ H fun x H1 => nvk x H1 Q) : nv3 ta σ H Q := h
theorem g_nvk {c : Bool} (q : Q (.bl (!c)) H) : nvk (.bl c) H Q := q
theorem g_if3 (h : cA σ H fun c H1 => if c = true then ta σ H1 Q else tb σ H1 Q) : if3 cA ta tb σ H Q := h
theorem g_nil (q : QL [] H) : nil3 σ H QL := q
theorem g_cons (h : ta σ H fun x H1 => tr σ H1 fun xs H2 => QL (x :: xs) H2) : cons3 ta tr σ H QL := h
theorem g_tp (h : tr σ H fun ds H1 => ds.length ≤ 1000 ∧ Q (.tup ds) H1) : tp3 tr σ H Q := h
theorem g_ls (h : tr σ H fun ds H1 => ds.length ≤ 1000 ∧ ∀ p, H1 p = none → Q (.ref p) (upd3 H1 p (.lst ds))) : ls3 tr σ H Q := h
theorem g_and {q : Prop} {n : Nat} (h : Nat.ble ds.length n = true) (h2 : q) : ds.length ≤ n ∧ q := ⟨Nat.le_of_ble_eq_true h, h2⟩
theorem g_cb {r : List D → Hp3 → VK3 → Prop} (h : tr σ H fun ds H1 => r ds H1 Q) : cb3 r tr σ H Q := h
theorem g_lenT (q : Q (.int ds.length) H) : r3len [.tup ds] H Q := q
theorem g_lenF (q : Q (.int ds.length) H) : r3len [.fl ds] H Q := q
theorem g_lenL (ha : H a = some (.lst ds)) (q : Q (.int ds.length) H) : r3len [.ref a] H Q := by simp only [r3len, ha]; exact q
theorem g_tupT (q : Q (.tup ds) H) : r3tuple [.tup ds] H Q := q
theorem g_tupL (ha : H a = some (.lst ds)) (q : Q (.tup ds) H) : r3tuple [.ref a] H Q := by simp only [r3tuple, ha]; exact q
theorem g_listT (q : ∀ p, H p = none → Q (.ref p) (upd3 H p (.lst ds))) : r3list [.tup ds] H Q := q
theorem g_listL (ha : H a = some (.lst ds)) (q : ∀ p, H p = none → Q (.ref p) (upd3 H p (.lst ds))) : r3list [.ref a] H Q := by simp only [r3list, ha]; exact q
theorem g_sl {tl th : TO3} {r : RSl} (h : te σ H fun x H1 => tl σ H1 fun l H2 => th σ H2 fun u H3 => r x l u H3 Q) : sl3 r te tl th σ H Q := h
theorem g_np {QO : Option Int → Hp3 → Prop} (q : QO none H) : np3 σ H QO := q
def ptk (x : D) (H1 : Hp3) (QO : Option Int → Hp3 → Prop) : Prop := match x with
  | .int i => QO (some i) H1
  | _ => False
theorem g_pt {QO : Option Int → Hp3 → Prop} (h : te σ H fun x H1 => ptk x H1 QO) : pt3 te σ H QO := h
theorem g_ptk {QO : Option Int → Hp3 → Prop} (q : QO (some i) H) : ptk (.int i) H QO := q
theorem g_slF {lo hi : Option Int} (q : ∀ p, H p = none → Q (.ref p) (upd3 H p (.lst (cut3 ds lo hi)))) : r3sl (.fl ds) lo hi H Q := q
theorem g_slL {lo hi : Option Int} (ha : H a = some (.lst ds)) (q : ∀ p, H p = none → Q (.ref p) (upd3 H p (.lst (cut3 ds lo hi)))) : r3sl (.ref a) lo hi H Q := by simp only [r3sl, ha]; exact q
/-! statements -/
theorem g_sq (h : t { D0 with nx := u D0 } σ H) : sq3 t u D0 σ H := h
theorem g_st {k : Nat} (h : te σ H fun x H1 => D0.nx (σ.set k (some x)) H1) : st3 k te D0 σ H := h
theorem g_nx3 (h : D0.nx σ H) : nx3 D0 σ H := h
theorem g_br3 (h : D0.bk σ H) : br3 D0 σ H := h
theorem g_co3 (h : D0.ct σ H) : co3 D0 σ H := h
theorem g_dr (h : te σ H fun _ H1 => D0.nx σ H1) : dr3 te D0 σ H := h
theorem g_rt3 (h : te σ H fun d H1 => D0.rt d H1) : rt3 te D0 σ H := h
theorem g_rn3 (h : D0.rt .non H) : rn3 D0 σ H := h
theorem g_is (h : cA σ H fun b H1 => if b = true then t D0 σ H1 else u D0 σ H1) : is3 cA t u D0 σ H := h
theorem g_as {g : TG3} (h : te σ H fun x H1 => g x σ H1 D0.nx) : as3 te g D0 σ H := h
theorem g_gn {k : Nat} {R : St3 → Hp3 → Prop} (h : R (σ.set k (some d)) H) : gn3 k d σ H R := h
theorem g_g2 {k l : Nat} {R : St3 → Hp3 → Prop} (h : R ((σ.set k (some x)).set l (some y)) H) : g2_3 k l (.tup [x, y]) σ H R := h
theorem g_g3 {k l m : Nat} {z : D} {R : St3 → Hp3 → Prop} (h : R (((σ.set k (some x)).set l (some y)).set m (some z)) H) : g3_3 k l m (.tup [x, y, z]) σ H R := h
theorem g_nx {n : St3 → Hp3 → Prop} {r : VK3} {bk ct : St3 → Hp3 → Prop} (h : n σ H) : Ends3.nx ⟨n, r, bk, ct⟩ σ H := h
theorem g_rt {n : St3 → Hp3 → Prop} {r : VK3} {bk ct : St3 → Hp3 → Prop} (h : r d H) : Ends3.rt ⟨n, r, bk, ct⟩ d H := h
theorem g_bk {n : St3 → Hp3 → Prop} {r : VK3} {bk ct : St3 → Hp3 → Prop} (h : bk σ H) : Ends3.bk ⟨n, r, bk, ct⟩ σ H := h
theorem g_ct {n : St3 → Hp3 → Prop} {r : VK3} {bk ct : St3 → Hp3 → Prop} (h : ct σ H) : Ends3.ct ⟨n, r, bk, ct⟩ σ H := h
theorem g_fin {H' : Hp3} (h : Q d H') (s : Sub3 H' H) : Ends3.rt (fin3 Q) d H := ⟨H', s, h⟩
/-! loops -/
def Lp (g : TG3) (tb : TS3) (D0 : Ends3) (σ : St3) (ds : List D) (keep : Hp3 → Prop) (H1 : Hp3) : Prop := ∃ P : Nat → St3 → Hp3 → Prop, P 0 σ H1 ∧ (∀ i σ H, i ≤ ds.length → P i σ H → keep H) ∧
  (∀ i d σ H, ds[i]? = some d → P i σ H → g d σ H fun σ2 H2 => tb { D0 with nx := P (i + 1), ct := P (i + 1), bk := D0.nx } σ2 H2) ∧ ∀ σ H, P ds.length σ H → D0.nx σ H
theorem g_fo {wi : TI3} {g : TG3} (h : wi σ H fun ds keep H1 => Lp g t D0 σ ds keep H1) : fo3 wi g t D0 σ H := h
theorem Lp.by {g : TG3} {keep : Hp3 → Prop} (P : Nat → St3 → Hp3 → Prop) (h0 : P 0 σ H) (hk : ∀ i σ H, i ≤ ds.length → P i σ H → keep H)
    (turn : ∀ i d σ H, ds[i]? = some d → P i σ H → g d σ H fun σ2 H2 => t { D0 with nx := P (i + 1), ct := P (i + 1), bk := D0.nx } σ2 H2) (fin : ∀ σ H, P ds.length σ H → D0.nx σ H) : Lp g t D0 σ ds keep H := ⟨P, h0, hk, turn, fin⟩
/-- over a range -/
theorem Lp.rng {g : TG3} {lo : Int} {n : Nat} (P : Nat → St3 → Hp3 → Prop) (h0 : P 0 σ H)
    (turn : ∀ (i : Nat) σ H, i < n → P i σ H → g (.int (lo + (i : Int))) σ H fun σ2 H2 => t { D0 with nx := P (i + 1), ct := P (i + 1), bk := D0.nx } σ2 H2) (fin : ∀ σ H, P n σ H → D0.nx σ H) : Lp g t D0 σ (rng lo n) (fun _ => True) H :=
  ⟨P, h0, fun _ _ _ _ _ => trivial, fun i d σ H hd p => by
    have hi : i < n := by
      have := (List.getElem?_eq_some_iff.mp hd).1
      rwa [rng_len] at this
    rw [rng_get hi] at hd
    cases hd
    exact turn i σ H hi p, fun σ H p => fin σ H (by rw [rng_len] at p; exact p)⟩
/-- of the heap only this is kept -/
theorem Lp.heap {g : TG3} {keep : Hp3 → Prop} (F : Hp3 → Prop) (hF : F H) (h : ∀ H', F H' → Lp g t D0 σ ds keep H') : Lp g t D0 σ ds keep H := h H hF
theorem g_ir1 {R : List D → (Hp3 → Prop) → Hp3 → Prop} (h : ta σ H fun x H1 => rg1 x H1 R) : ir1 ta σ H R := h
theorem g_ir2 {R : List D → (Hp3 → Prop) → Hp3 → Prop} (h : ta σ H fun x H1 => tb σ H1 fun y H2 => rg2 x y H2 R) : ir2 ta tb σ H R := h
theorem g_rg1 {R : List D → (Hp3 → Prop) → Hp3 → Prop} (h : R (rng 0 j.toNat) (fun _ => True) H) : rg1 (.int j) H R := h
theorem g_rg2 {R : List D → (Hp3 → Prop) → Hp3 → Prop} (h : R (rng i (j - i).toNat) (fun _ => True) H) : rg2 (.int i) (.int j) H R := h
def ilk (x : D) (H1 : Hp3) (R : List D → (Hp3 → Prop) → Hp3 → Prop) : Prop := match x with
  | .ref a => (match H1 a with
    | some (.lst ds) => R ds (fun H' => H' a = some (.lst ds)) H1
    | _ => False)
  | .fl ds => R ds (fun _ => True) H1
  | _ => False
def itk (x : D) (H1 : Hp3) (R : List D → (Hp3 → Prop) → Hp3 → Prop) : Prop := match x with
  | .tup ds => R ds (fun _ => True) H1
  | _ => False
theorem g_il {R : List D → (Hp3 → Prop) → Hp3 → Prop} (h : te σ H fun x H1 => ilk x H1 R) : il3 te σ H R := h
theorem g_ilR {R : List D → (Hp3 → Prop) → Hp3 → Prop} (ha : H a = some (.lst ds)) (h : R ds (fun H' => H' a = some (.lst ds)) H) : ilk (.ref a) H R := by simp only [ilk, ha]; exact h
theorem g_ilF {R : List D → (Hp3 → Prop) → Hp3 → Prop} (h : R ds (fun _ => True) H) : ilk (.fl ds) H R := h
theorem g_it {R : List D → (Hp3 → Prop) → Hp3 → Prop} (h : te σ H fun x H1 => itk x H1 R) : it3 te σ H R := h
theorem g_itT {R : List D → (Hp3 → Prop) → Hp3 → Prop} (h : R ds (fun _ => True) H) : itk (.tup ds) H R := h
/-! methods -/
def mtk (r : D → List D → Hp3 → VK3 → Prop) (t : TA3) (σ : St3) (x : D) (H1 : Hp3) (Q : VK3) : Prop := match x with
  | .ref a => (match H1 a with
    | some (.lst _) => t σ H1 fun xs H2 => r x xs H2 Q
    | _ => False)
  | _ => False
theorem g_m3 {r : D → List D → Hp3 → VK3 → Prop} (h : te σ H fun x H1 => mtk r tr σ x H1 Q) : m3 r te tr σ H Q := h
theorem g_mtk {r : D → List D → Hp3 → VK3 → Prop} (ha : H a = some (.lst ds)) (h : tr σ H fun xs H2 => r (.ref a) xs H2 Q) : mtk r tr σ (.ref a) H Q := by simp only [mtk, ha]; exact h
theorem g_app (ha : H a = some (.lst ds)) (hl : ds.length < sizeLine) (q : Q .non (upd3 H a (.lst (ds ++ [y])))) : r3app (.ref a) [y] H Q := by simp only [r3app, ha]; exact ⟨hl, q⟩
theorem g_clr (ha : H a = some (.lst ds)) (q : Q .non (upd3 H a (.lst []))) : r3clr (.ref a) [] H Q := by simp only [r3clr, ha]; exact q
/-! sequences, whatever they are -/
theorem seq_ref (ha : H a = some (.lst ds)) : seqH H (.ref a) = some ds := by simp only [seqH, ha]
theorem g_isi {U T : String} (h : tyH H x = some U) (hT : T ∈ kinds) (q : Q (.bl (isT U T)) H) : r3isi [x, .ty T] H Q := by
  simp only [r3isi, h]; exact ⟨hT, q⟩
theorem atI_map {α : Type} {xs : List α} {f : α → D} {k : Int} (h0 : 0 ≤ k) (h1 : k.toNat < xs.length) : atI (xs.map f) k = some (f (xs[k.toNat]'h1)) := by
  have hl : k < ((xs.map f).length : Int) := by rw [List.length_map]; omega
  unfold atI ixN
  rw [if_pos h0, if_pos hl, Option.bind_some, List.getElem?_map, List.getElem?_eq_getElem h1]
  rfl
/-! comprehensions -/
def Cp (g : TG3) (tc : TT3) (te : TE3) (σ0 : St3) (ds : List D) (keep : Hp3 → Prop) (H1 : Hp3) (Q : VK3) : Prop := (∀ H2 : Hp3, Sub3 H1 H2 → keep H2) ∧ ds.length ≤ 1000 ∧ ∃ rs : List (Option D), rs.length = ds.length ∧
  (∀ (i : Nat) (d : D), ds[i]? = some d → ∀ H2 : Hp3, Sub3 H1 H2 → g d σ0 H2 fun σ2 H4 => tc σ2 H4 fun b H5 =>
    if b = true then te σ2 H5 fun v H6 => Sub3 H2 H6 ∧ rs[i]? = some (some v) else Sub3 H2 H5 ∧ rs[i]? = some none) ∧
  ∀ p, H1 p = none → Q (.ref p) (upd3 H1 p (.lst (rs.filterMap id)))
def blk3 (own : List Str) (fv : FV) (σ : St3) : St3 := own.map (fun _ => none) ++ fv.map fun p => (σ[p.1]?).join
theorem g_cp {wi : TI3} {g : TG3} {own : List Str} {fv : FV} (h : wi σ H fun ds keep H1 => Cp g cA te (blk3 own fv σ) ds keep H1 Q) : cp3 wi g cA te own fv σ H Q := h
theorem g_yes (q : QB true H) : yes3 σ H QB := q
/-- each item E a gives F a, where the test T a says yes -/
theorem Cp.filt {α : Type} {g : TG3} {keep : Hp3 → Prop} {σ0 : St3} {as : List α} {E : α → D} (F : α → D) (T : α → Bool) (hk : ∀ H2 : Hp3, Sub3 H H2 → keep H2) (hl : as.length ≤ 1000)
    (hel : ∀ (i : Nat) a, as[i]? = some a → ∀ (R1 : VK3) (R0 : Hp3 → Prop) (H2 : Hp3), Sub3 H H2 → (T a = true → ∀ H6, Sub3 H2 H6 → R1 (F a) H6) → (T a = false → ∀ H6, Sub3 H2 H6 → R0 H6) → g (E a) σ0 H2 fun σ2 H4 => cA σ2 H4 fun b H5 => if b = true then te σ2 H5 R1 else R0 H5)
    (fin : ∀ p, H p = none → Q (.ref p) (upd3 H p (.lst ((as.filter T).map F)))) : Cp g cA te σ0 (as.map E) keep H Q := by
  refine ⟨hk, by rw [List.length_map]; exact hl, as.map (fun a => if T a = true then some (F a) else none), by simp, fun i d hd H2 hs => ?_, fun p hp => ?_⟩
  · rw [List.getElem?_map] at hd
    cases e : as[i]? with
    | none => rw [e] at hd; cases hd
    | some a =>
      rw [e] at hd
      cases hd
      have er : (as.map fun a => if T a = true then some (F a) else none)[i]? = some (if T a = true then some (F a) else none) := by rw [List.getElem?_map, e]; rfl
      exact hel i a e _ _ H2 hs (fun ht H6 h6 => ⟨h6, by rw [er, if_pos ht]⟩) fun ht H6 h6 => ⟨h6, by rw [er, if_neg (by rw [ht]; exact Bool.false_ne_true)]⟩
  · have e : ∀ as : List α, (as.map fun a => if T a = true then some (F a) else none).filterMap id = (as.filter T).map F := by
      intro as
      induction as with
      | nil => rfl
      | cons a as ih =>
        rw [List.map_cons, List.filterMap_cons]
        cases h : T a with
        | true => rw [List.filter_cons_of_pos h, List.map_cons, ← ih]; rfl
        | false => rw [List.filter_cons_of_neg (by simp [h]), ← ih]; rfl
    rw [e]
    exact fin p hp
/-- no test -/
theorem Cp.map {α : Type} {g : TG3} {keep : Hp3 → Prop} {σ0 : St3} {as : List α} {E : α → D} (F : α → D) (hk : ∀ H2 : Hp3, Sub3 H H2 → keep H2) (hl : as.length ≤ 1000)
    (hel : ∀ (i : Nat) a, as[i]? = some a → ∀ (R : VK3) (H2 : Hp3), Sub3 H H2 → (∀ H6, Sub3 H2 H6 → R (F a) H6) → g (E a) σ0 H2 fun σ2 H4 => te σ2 H4 R)
    (fin : ∀ p, H p = none → Q (.ref p) (upd3 H p (.lst (as.map F)))) : Cp g yes3 te σ0 (as.map E) keep H Q := by
  refine ⟨hk, by rw [List.length_map]; exact hl, as.map (fun a => some (F a)), by simp, fun i d hd H2 hs => ?_, fun p hp => ?_⟩
  · rw [List.getElem?_map] at hd
    cases e : as[i]? with
    | none => rw [e] at hd; cases hd
    | some a =>
      rw [e] at hd
      cases hd
      have er : (as.map fun a => some (F a))[i]? = some (some (F a)) := by rw [List.getElem?_map, e]; rfl
      exact hel i a e _ H2 hs fun H6 h6 => ⟨h6, er⟩
  · have e : ∀ as : List α, (as.map fun a => some (F a)).filterMap id = as.map F := by
      intro as
      induction as with
      | nil => rfl
      | cons a as ih => rw [List.map_cons, List.filterMap_cons, List.map_cons, ← ih]; rfl
    rw [e]
    exact fin p hp
/-- the same, where pairs come out -/
theorem Cp.mapP {α : Type} {g : TG3} {keep : Hp3 → Prop} {σ0 : St3} {as : List α} {E : α → D} (f : α → Pt) (hk : ∀ H2 : Hp3, Sub3 H H2 → keep H2) (hl : as.length ≤ 1000)
    (hel : ∀ (i : Nat) a, as[i]? = some a → ∀ (R : VK3) (H2 : Hp3), Sub3 H H2 → (∀ H6, Sub3 H2 H6 → R (.tup [.int (f a).1, .int (f a).2]) H6) → g (E a) σ0 H2 fun σ2 H4 => te σ2 H4 R)
    (fin : ∀ p, H p = none → Q (.ref p) (upd3 H p (.lst ((as.map f).map prP)))) : Cp g yes3 te σ0 (as.map E) keep H Q :=
  Cp.map (fun a => prP (f a)) hk hl hel fun p hp => by have := fin p hp; rw [List.map_map] at this; exact this
theorem g_so {sp : Sp3} (h : te σ H fun x H1 => sok sp x H1 Q) : so3 sp te σ H Q := h
theorem g_eqB {k l : Bool} (q : Q (.bl (k == l)) H) : r3eq (.bl k) (.bl l) H Q := by
  simp only [r3eq, pyH, pyN, PyData.eqv]; exact q
theorem cut3_map {α : Type} (xs : List α) (f : α → D) (lo hi : Option Int) : cut3 (xs.map f) lo hi = (cut3 xs lo hi).map f := by
  unfold cut3; rw [List.length_map, List.map_take, List.map_drop]
theorem cut3_init {α : Type} (xs : List α) (x : α) : cut3 (xs ++ [x]) none (some (-1)) = xs := by
  unfold cut3 HT.sIx
  simp only [List.length_append, List.length_singleton]
  rw [if_pos (by decide), show ((-1 : Int) + ((xs.length + 1 : Nat) : Int)).toNat = xs.length by omega]
  simp
/-! tests decided -/
theorem ifD {p A B : Prop} [Decidable p] (h1 : p → A) (h2 : ¬ p → B) : if decide p = true then A else B := by
  by_cases h : p
  · rw [if_pos (decide_eq_true h)]; exact h1 h
  · rw [if_neg (by simpa using h)]; exact h2 h
theorem ifN {p A B : Prop} [Decidable p] (h1 : ¬ p → A) (h2 : p → B) : if (!decide p) = true then A else B := by
  by_cases h : p
  · rw [if_neg (by simpa using h)]; exact h2 h
  · rw [if_pos (by simpa using h)]; exact h1 h
theorem ifB {c : Bool} {A B : Prop} (h1 : c = true → A) (h2 : c = false → B) : if c = true then A else B := by
  cases c
  · rw [if_neg Bool.false_ne_true]; exact h2 rfl
  · rw [if_pos rfl]; exact h1 rfl
theorem ifY {c : Bool} {A B : Prop} (hc : c = true) (h : A) : if c = true then A else B := by rw [if_pos hc]; exact h
theorem ifX {c : Bool} {A B : Prop} (hc : c = false) (h : B) : if c = true then A else B := by subst hc; exact h
end
end L3

namespace L3
open PySem PySem.W PyProof.Rows
/-! ### the tree of questions that a sort of fewer than 64 items asks: what comes out is in order -/
section
variable {cmp : Nat → Nat → (Bool → Shared → Prop) → Shared → Prop} {n : Nat} {z : Nat → Int} {s : Shared}
def ak (z : Nat → Int) (p : Array Nat) (t : Nat) : Int := z (p.getD t 0)
theorem getD_of {p : Array Nat} {t : Nat} : p.getD t 0 = (p[t]?).getD 0 := by simp [Array.getD_eq_getD_getElem?]
def Pm (n : Nat) (p : Array Nat) : Prop := p.Perm (List.range n).toArray
theorem Pm.size {p : Array Nat} (h : Pm n p) : p.size = n := by have := Array.Perm.size_eq h; simpa using this
theorem Pm.lt {p : Array Nat} (h : Pm n p) {t : Nat} (ht : t < n) : p.getD t 0 < n := by
  have hs : t < p.size := by rw [h.size]; exact ht
  have e : p.getD t 0 = p[t] := by rw [getD_of, Array.getElem?_eq_getElem hs]; rfl
  have hm : p[t] ∈ p := Array.getElem_mem hs
  have := (Array.Perm.mem_iff h).mp hm
  rw [e]
  simpa using this
theorem Pm.rev {p : Array Nat} (h : Pm n p) (i j : Nat) : Pm n (kas_rev p i j) := (mirror_perm p i j _).trans h
def CmpOk (cmp : Nat → Nat → (Bool → Shared → Prop) → Shared → Prop) (n : Nat) (z : Nat → Int) (s : Shared) : Prop := ∀ i j C, i < n → j < n → C (decide (z i < z j)) s → cmp i j C s
def SorP (z : Nat → Int) (p : Array Nat) (k : Nat) : Prop := ∀ i j, i ≤ j → j < k → ak z p i ≤ ak z p j
end
end L3

namespace L3
open PySem PySem.Spec PySem.W PyProof.Rows
/-! ### sorted(.., key = f): fewer than 64 items, keys made one after another -/
section
variable {prog : Program} {w : World} {A : Around} {E : Value → Shared → Prop} {s : Shared}
/-- what the caller shows of a sort: J: what holds when the keys ks are made and lie at kS; D: the list that is sorted -/
structure SortJ (prog : Program) (w : World) (A : Around) (s : Shared) (vs : List Value) (f : Value) (z : Nat → Int) (Q : Value → Shared → Prop) (D kS : Addr) (J : Nat → List Value → Nat → Shared → Prop) : Prop where
  start : ∀ e1 h', (∀ b o, s.heap.get? b = some o → h'.get? b = some o) → h'.get? D = some (seqObj "list" #[] e1) → h'.get? kS = some (seqObj "list" #[] 0) → J e1 [] 0 { s with heap := h' }
  stand : ∀ e1 ks e s1, J e1 ks e s1 → s1.heap.get? kS = some (seqObj "list" (List.toArray ks) e) ∧ s1.heap.get? D = some (seqObj "list" #[] e1)
  turn : ∀ e1 ks e s1 x, J e1 ks e s1 → vs[ks.length]? = some x → wpAny (model prog w) A (call f [x]) (fun k s2 => s2.heap.get? kS = some (seqObj "list" (List.toArray ks) e) ∧
    ∀ c h', Heap.SameBut kS s2.heap h' → h'.get? kS = some (seqObj "list" (List.toArray (ks ++ [k])) c) → J e1 (ks ++ [k]) c { s2 with heap := h' }) (fun _ _ => False) s1
  order : ∀ e1 ks e s1, J e1 ks e s1 → ks.length = vs.length → 2 ≤ vs.length → wpAny (model prog w) A (keyKind' (List.toArray ks)) (fun κ s2 => s2 = s1 ∧ CmpOk (kas_ask prog w A κ ks) vs.length z s1) (fun _ _ => False) s1
  fin : ∀ e1 ks e s1 (p : Array Nat), J e1 ks e s1 → ks.length = vs.length → Pm vs.length p → SorP z p vs.length → ∀ h' c, (∀ b o, b ≠ kS → b ≠ D → s1.heap.get? b = some o → h'.get? b = some o) →
    h'.get? D = some (seqObj "list" (List.toArray (p.toList.map fun i => vs.getD i Value.none)) c) → Q (.ref D) { s1 with heap := h' }
end
end L3

namespace L3
open PySem PySem.Spec PyProof.Rows L2
/-! ### sorted(some, key = rank): pairs in the order of their second number first -/
/-- the context one builtin and one method deeper; no exception leaves -/
def Cx.in2 (X : Cx) : Cx := { X with A := X.A.in1.in1, xe := fun _ _ => False }
theorem Ok.in2 {X : Cx} (k : X.Ok) : (Cx.in2 X).Ok := ⟨k.mod, k.kind, k.glob, k.blt, k.above, k.inj, k.has, k.cab, k.hd, k.frames, k.stk, k.exf, k.bs, k.bsz, k.noex, k.exfs, k.funs, k.frf⟩
section
variable {X : Cx} {pins : List (Addr × Obj)} {σ : St} {H H' : Hp} {s : Shared}
theorem Inv.in2 (I : Inv X pins σ H s) : Inv (Cx.in2 X) pins σ H s := ⟨Ok.in2 I.ok, I.os, I.bare, I.base, I.loc, I.cell, I.free, I.freeC, I.pin, I.hok, I.len⟩
/-- two records of ours have changed; one of them is a list that is tracked from here on -/
theorem Inv.adopt {D kS : Addr} {xs : List V} {its : List Value} {n : Nat} {h' : Heap} (I : Inv X pins σ H s) (fD : FpOk X pins H D) (fk : FpOk X pins H kS) (g : ∀ b o, b ≠ kS → b ≠ D → s.heap.get? b = some o → h'.get? b = some o)
    (hD : h'.get? D = some (seqObj "list" its.toArray n)) (hv : Vals xs its) (hz : xs.length ≤ sizeLine) : Inv X pins σ (upd H D (.lst xs)) { s with heap := h' } := by
  have nD : ∀ b u, H b = some u → b ≠ D := fun b u e z => by rw [z, fD.1] at e; cases e
  have nK : ∀ b u, H b = some u → b ≠ kS := fun b u e z => by rw [z, fk.1] at e; cases e
  have out : ∀ b, b ∉ [kS, D] → b ≠ kS ∧ b ≠ D := fun b hb => ⟨fun z => hb (by simp [z]), fun z => hb (by simp [z])⟩
  refine I.step (g' := s.gens) (d' := s.drawn) (t' := s.toks) (ch := [kS, D]) (fun b hb => ?_) (fun b o _ _ hc e _ => g b o (out b hc).1 (out b hc).2 e) (fun b o _ _ hc e _ => ⟨o.slots, g b o (out b hc).1 (out b hc).2 e⟩) (fun b o hc _ z => by rw [upd_ne (out b hc).2]; exact z) ?_
    (fun b ys e => by rw [upd_ne (nD b _ e)]; exact e) (fun b o u e => by rw [upd_ne (nD b _ e)]; exact e) (fun b ps e => ⟨#[], by rw [upd_ne (nD b _ e), e]; simp⟩) (fun m hm => ?_) (fun b u e => ?_) I.bare
  · rcases List.mem_cons.mp hb with z | hb
    · rw [z]; exact ⟨fk.2.2.2.1, fk.2.1, fk.2.2.2.2.1, fk.2.2.2.2.2⟩
    · rw [List.mem_singleton.mp hb]; exact ⟨fD.2.2.2.1, fD.2.1, fD.2.2.2.2.1, fD.2.2.2.2.2⟩
  · exact fun b o hc e => ⟨o, g b o (out b hc).1 (out b hc).2 e⟩
  · obtain ⟨o, es, ep, ho, r⟩ := hm
    exact ⟨o, es, ep, g _ o (Ne.symm fk.2.1) (Ne.symm fD.2.1) ho, r⟩
  · by_cases hb : b = D
    · subst hb
      rw [upd_same] at e
      cases e
      exact ⟨hz, its, n, hv, hD⟩
    · rw [upd_ne hb] at e
      refine (I.hok b u e).stay (fun c v hc q => ?_) (fun c q => by rw [upd_ne (nD c _ q)]; exact q) fun c ys q => by rw [upd_ne (nD c _ q)]; exact q
      rcases hc with z | z
      · exact g c v (by rw [z]; exact nK b u e) (by rw [z]; exact hb) q
      · exact g c v (nK c _ z) (nD c _ z) q
end
/-- the keys made so far -/
def Keys (K : PySem.W.Frag) (H : Hp) : List Pt → List Value → Prop := Paired fun c k => ∃ a, k = .ref a ∧ SqT K H a [.int c.2, .int c.1]
theorem Keys.mono {K : PySem.W.Frag} {H H' : Hp} (t : TK H H') {cs : List Pt} {ks : List Value} (h : Keys K H cs ks) : Keys K H' cs ks := Paired.mapP h fun _ _ ⟨a, e, q⟩ => ⟨a, e, t.sqT q⟩
theorem Paired.snoc {α β : Type} {R : α → β → Prop} : ∀ {as : List α} {bs : List β} {a : α} {b : β}, Paired R as bs → R a b → Paired R (as ++ [a]) (bs ++ [b])
  | _, _, _, _, .nil, h => .cons h .nil
  | _, _, _, _, .cons r t, h => .cons r (Paired.snoc t h)
theorem Paired.at {α β : Type} {R : α → β → Prop} : ∀ {as : List α} {bs : List β} {i : Nat} {a : α}, Paired R as bs → as[i]? = some a → ∃ b, bs[i]? = some b ∧ R a b
  | _, _, _, _, .nil, e => by simp at e
  | _, _, 0, _, .cons r _, e => by simp at e; subst e; exact ⟨_, rfl, r⟩
  | _, _, i + 1, a, .cons _ t, e => by
    obtain ⟨b, h1, h2⟩ := Paired.at (i := i) (a := a) t (by simpa using e)
    exact ⟨b, by simpa using h1, h2⟩
section
variable {X : Cx}
end
end L3

namespace L3
open PySem PySem.Spec PyProof.Rows L2
section
variable {X : Cx} {pins : List (Addr × Obj)} {σ : St} {H : Hp} {s : Shared}
end
end L3

namespace L3
open PySem PySem.Spec PyProof.Rows L2
/-! ### dicts keyed by tuples of ints and texts -/
def keysOf : List D → Option (List Key)
  | [] => some []
  | .int i :: ds => (keysOf ds).map (Sum.inl i :: ·)
  | .str x :: ds => (keysOf ds).map (Sum.inr x :: ·)
  | _ :: _ => none
theorem keys_rep {K : PySem.W.Frag} {H : Hp} : ∀ {ds : List D} {xs : List V} {ks : List Key}, RepL K H ds xs → keysOf ds = some ks → xs = ks.map kV
  | _, _, _, .nil, h => by simp only [keysOf, Option.some.injEq] at h; subst h; rfl
  | _, _, _, .cons (d := d) r t, h => by
    cases r with
    | int i =>
      simp only [keysOf, Option.map_eq_some_iff] at h
      obtain ⟨ms, h1, rfl⟩ := h
      rw [keys_rep t h1]; rfl
    | str i =>
      simp only [keysOf, Option.map_eq_some_iff] at h
      obtain ⟨ms, h1, rfl⟩ := h
      rw [keys_rep t h1]; rfl
    | _ => simp [keysOf] at h
abbrev Tab := List (List Key × D)
def dlook (kvs : Tab) (k : List Key) : Option D := (kvs.find? fun kv => decide (kv.1 = k)).map (·.2)
def dput (kvs : Tab) (k : List Key) (d : D) : Tab := if (kvs.any fun kv => decide (kv.1 = k)) = true then kvs.map (fun kv => if kv.1 = k then (kv.1, d) else kv) else kvs ++ [(k, d)]
abbrev TR (K : PySem.W.Frag) (H : Hp) : Tab → List (List Key × V) → Prop := Paired (fun (p : List Key × D) (q : List Key × V) => p.1 = q.1 ∧ Rep K H p.2 q.2)
theorem TR.look {K : PySem.W.Frag} {H : Hp} {k : List Key} : ∀ {kvs : Tab} {ks : List (List Key × V)}, TR K H kvs ks → (valV ks k).isSome = (dlook kvs k).isSome ∧ ∀ d, dlook kvs k = some d → ∃ v, valV ks k = some v ∧ Rep K H d v
  | _, _, .nil => ⟨rfl, fun _ h => nomatch h⟩
  | _, _, .cons (a := p) (b := q) r t => by
    have ih := TR.look (k := k) t
    by_cases e : p.1 = k
    · have e' : q.1 = k := r.1.symm.trans e
      have l1 : ∀ rest : Tab, dlook (p :: rest) k = some p.2 := fun rest => by unfold dlook; rw [List.find?_cons_of_pos (by simpa using e)]; rfl
      rw [valV_pos e', l1]
      exact ⟨rfl, fun d h => ⟨_, rfl, by cases h; exact r.2⟩⟩
    · have e' : ¬ q.1 = k := fun z => e (r.1.trans z)
      have l1 : ∀ rest : Tab, dlook (p :: rest) k = dlook rest k := fun rest => by unfold dlook; rw [List.find?_cons_of_neg (by simpa using e)]
      rw [valV_neg e', l1]
      exact ih
theorem TR.any {K : PySem.W.Frag} {H : Hp} {k : List Key} : ∀ {kvs : Tab} {ks : List (List Key × V)}, TR K H kvs ks → (kvs.any fun kv => decide (kv.1 = k)) = ks.any fun kv => decide (kv.1 = k)
  | _, _, .nil => rfl
  | _, _, .cons r t => by rw [List.any_cons, List.any_cons, TR.any t, r.1]
theorem TR.repl {K : PySem.W.Frag} {H : Hp} {k : List Key} {d : D} {v : V} (rd : Rep K H d v) : ∀ {kvs : Tab} {ks : List (List Key × V)}, TR K H kvs ks → TR K H (kvs.map fun kv => if kv.1 = k then (kv.1, d) else kv) (ks.map fun kv => if kv.1 = k then (kv.1, v) else kv)
  | _, _, .nil => .nil
  | _, _, .cons (a := p) (b := q) r t => by
    refine .cons ?_ (TR.repl rd t)
    dsimp only
    by_cases e : p.1 = k
    · rw [if_pos e, if_pos (r.1.symm.trans e)]; exact ⟨r.1, rd⟩
    · rw [if_neg e, if_neg (fun z => e (r.1.trans z))]; exact r
theorem TR.put {K : PySem.W.Frag} {H : Hp} {k : List Key} {d : D} {v : V} {kvs : Tab} {ks : List (List Key × V)} (r : TR K H kvs ks) (rd : Rep K H d v) : TR K H (dput kvs k d) (putK ks k v) := by
  unfold dput putK
  rw [← TR.any r]
  split
  · exact TR.repl rd r
  · exact Paired.snoc r ⟨rfl, rd⟩
theorem TR.mono {K : PySem.W.Frag} {H H' : Hp} (t : TK H H') {kvs : Tab} {ks : List (List Key × V)} (r : TR K H kvs ks) : TR K H' kvs ks := Paired.mapP r fun _ _ z => ⟨z.1, z.2.mono t⟩
/-! in, not in -/
def r3inD (neg : Bool) : R3 := fun x y H Q => match x, y with
  | .tup ds, .ref a => (match keysOf ds, H a with
    | some k, some (.dic kvs) => Q (.bl (if neg then !(dlook kvs k).isSome else (dlook kvs k).isSome)) H
    | _, _ => False)
  | _, _ => False
def r3inX (neg : Bool) : R3 := fun x y H Q => r3in neg x y H Q ∨ r3inD neg x y H Q
section
variable {X : Cx}
theorem op3_notInX (hu : X.A.units + 64 < cLine) : OpR X (compareOp .NotIn) (lift2 X.K (r3inX true)) := by
  intro pins s σ H x y v u Q I rx ry h
  obtain ⟨dx, dy, H3, Q3, hr, rdx, rdy, t, k⟩ := h
  rcases t with t | t
  · exact op3_notIn hu pins s σ H x y v u Q I rx ry ⟨dx, dy, H3, Q3, hr, rdx, rdy, t, k⟩
  · cases rdx with
    | tup ha ra =>
      cases rdy with
      | ref a =>
        simp only [r3inD] at t
        split at t
        · rename_i ks kvs e1 e2
          obtain ⟨vs, gd, rd⟩ := hr a _ e2
          cases ry
          have ex := keys_rep ra e1
          subst ex
          refine d_notIn (by omega) I (DGet.t gd ha) rx fun s' I' => ⟨.bl _, H, I', rfl, ?_⟩
          rw [(TR.look (k := ks) rd).1]
          exact k _ _ _ _ TK.refl hr (.bl _) t
        · exact t.elim
      | _ => exact t.elim
    | _ => exact t.elim
/-! d[k] = v -/
def dpk (v x y : D) (σ : St3) (H : Hp3) (R : St3 → Hp3 → Prop) : Prop := match x, y with
  | .ref a, .tup ds => (match keysOf ds, H a with
    | some k, some (.dic kvs) => kvs.length < 1000 ∧ R σ (upd3 H a (.dic (dput kvs k v)))
    | _, _ => False)
  | _, _ => False
def dp3 (td ty tv : TE3) : TS3 := fun D0 σ H => tv σ H fun v H1 => td σ H1 fun x H2 => ty σ H2 fun y H3 => dpk v x y σ H3 D0.nx
/-! {} -/
def dn3 : TE3 := fun _ H Q => ∀ p, H p = none → Q (.ref p) (upd3 H p (.dic []))
/-! {k: v} -/
def ddk (p : Addr) (x y : D) (H : Hp3) (Q : VK3) : Prop := match x with
  | .tup ds => H p = some (.dic []) ∧ (match keysOf ds with
    | some k => Q (.ref p) (upd3 H p (.dic [(k, y)]))
    | none => False)
  | _ => False
def dd3 (tk tv : TE3) : TE3 := fun σ H Q => ∀ p, H p = none → tk σ (upd3 H p (.dic [])) fun x H1 => tv σ H1 fun y H2 => ddk p x y H2 Q
end
/-! an exception that is never raised -/
end L3

namespace L3
open PySem PySem.Spec PyProof.Rows L2
/-! ### dict(pairs): a list of pairs, the first of each a tuple of ints and texts -/
section
variable {prog : Program} {w : World} {A : Around} {E : Value → Shared → Prop} {s : Shared}
end
/-- the items of the list: pairs of a key's tuple and a value -/
def PairsIn (H : Hp) : List V → List (List Key × V) → Prop := Paired fun v p => ∃ t b, v = .ref t ∧ H t = some (.tup [.ref b, p.2]) ∧ H b = some (.tup (p.1.map kV))
theorem PairsIn.mono {H H' : Hp} (t : ∀ b xs, H b = some (.tup xs) → H' b = some (.tup xs)) {vs : List V} {ps : List (List Key × V)} (h : PairsIn H vs ps) : PairsIn H' vs ps := Paired.mapP h fun _ _ ⟨a, b, e, h1, h2⟩ => ⟨a, b, e, t _ _ h1, t _ _ h2⟩
section
variable {X : Cx} {pins : List (Addr × Obj)} {σ : St}
end
/-! over data -/
end L3
namespace L3
open PySem PySem.Spec PyProof.Rows L2
end L3

namespace L3
open PySem L2
/-! ### steps: dicts of pairs -/
section
variable {σ : St3} {H : Hp3} {Q : VK3} {D0 : Ends3} {a p : Addr} {x y : D} {ta tb te : TE3} {p1 p2 : Int} {ps : List Pt}
theorem g_dp (h : te σ H fun v H1 => ta σ H1 fun x H2 => tb σ H2 fun y H3 => dpk v x y σ H3 D0.nx) : dp3 ta tb te D0 σ H := h
theorem g_dn (h : ∀ p, H p = none → Q (.ref p) (upd3 H p (.dic []))) : dn3 σ H Q := h
theorem g_dd (h : ∀ p, H p = none → ta σ (upd3 H p (.dic [])) fun x H1 => tb σ H1 fun y H2 => ddk p x y H2 Q) : dd3 ta tb σ H Q := h
end
end L3

/-! ### all, any, sum of a list -/
namespace L3
open PySem PySem.Spec PyProof.Rows L2
/-! ### a text's letters -/
def lets (z : Str) : List D := z.cps.toList.map fun c => D.str ⟨#[c]⟩
def iz3 (te : TE3) : TI3 := fun σ H R => te σ H fun x H1 => match x with
  | .str z => R (lets z) (fun _ => True) H1
  | _ => False
def izk (x : D) (H : Hp3) (R : List D → (Hp3 → Prop) → Hp3 → Prop) : Prop := match x with
  | .str z => R (lets z) (fun _ => True) H
  | _ => False
theorem g_iz {te : TE3} {σ : St3} {H : Hp3} {R : List D → (Hp3 → Prop) → Hp3 → Prop} (h : te σ H fun x H1 => izk x H1 R) : iz3 te σ H R := h
theorem g_izS {z : Str} {H : Hp3} {R : List D → (Hp3 → Prop) → Hp3 → Prop} (h : R (lets z) (fun _ => True) H) : izk (.str z) H R := h
/-! ### texts' methods -/
def strsOf : List D → Option (List Str)
  | [] => some []
  | .str b :: ds => (strsOf ds).map (b :: ·)
  | _ :: _ => none
theorem strsOf_map (bs : List Str) : strsOf (bs.map D.str) = some bs := by
  induction bs with
  | nil => rfl
  | cons b bs ih => rw [List.map_cons, strsOf, ih]; rfl
theorem strsOf_inv : ∀ {ds : List D} {bs : List Str}, strsOf ds = some bs → ds = bs.map D.str
  | [], bs, h => by cases h; rfl
  | d :: ds, bs, h => by
    cases d with
    | str b =>
      rw [strsOf, Option.map_eq_some_iff] at h
      obtain ⟨cs, hc, rfl⟩ := h
      rw [strsOf_inv hc]; rfl
    | _ => cases h
/-- texts behind one another, z between them -/
def joinZ (z : Str) (ys : List Str) : Str := ⟨(ys.drop 1).foldl (fun acc p => acc ++ z.cps ++ p.cps) (ys.headD ⟨#[]⟩).cps⟩
theorem foldl_cps (z : Str) (hz : z.cps = #[]) : ∀ (ys : List Str) (acc : Array Nat), ys.foldl (fun acc p => acc ++ z.cps ++ p.cps) acc = acc ++ (ys.map fun y => y.cps.toList).flatten.toArray
  | [], acc => by simp
  | y :: ys, acc => by rw [List.foldl_cons, foldl_cps z hz ys, hz]; apply Array.ext'; simp
theorem joinZ_nil {z : Str} (hz : z.cps = #[]) (ys : List Str) : joinZ z ys = ⟨(ys.map fun y => y.cps.toList).flatten.toArray⟩ := by
  unfold joinZ
  rw [foldl_cps z hz]
  cases ys with
  | nil => simp
  | cons y ys => simp
/-- of single letters -/
theorem joinZ_lets {z : Str} (hz : z.cps = #[]) (cs : List Nat) : joinZ z (cs.map fun c => ⟨#[c]⟩) = ⟨cs.toArray⟩ := by
  rw [joinZ_nil hz, List.map_map]
  congr 2
  induction cs with
  | nil => rfl
  | cons c cs ih => simp only [List.map_cons, List.flatten_cons, ih]; rfl
def r3join : D → List D → Hp3 → VK3 → Prop := fun x xs H Q => match x, xs with
  | .str z, [.ref a] => (match H a with
    | some (.lst ds) => (match strsOf ds with
      | some ys => (ys.map fun y => y.cps.size).sum + ys.length * z.cps.size ≤ 16777216 ∧ Q (.str (joinZ z ys)) H
      | none => False)
    | _ => False)
  | _, _ => False
/-- where y first stands in z -/
def firstAt (z y : Str) : Option Nat := (List.range (z.cps.size + 1)).find? fun i => decide (i + y.cps.size ≤ z.cps.size) && (z.cps.extract i (i + y.cps.size) == y.cps)
def r3index : D → List D → Hp3 → VK3 → Prop := fun x xs H Q => match x, xs with
  | .str z, [.str y] => (match firstAt z y with
    | some i => Q (.int i) H
    | none => False)
  | _, _ => False
/-- a method of a text -/
def mz3 (r : D → List D → Hp3 → VK3 → Prop) (to : TE3) (t : TA3) : TE3 := fun σ H Q => to σ H fun x H1 => (match x with
  | .str _ => t σ H1 fun xs H2 => r x xs H2 Q
  | _ => False)
def mzk (r : D → List D → Hp3 → VK3 → Prop) (t : TA3) (σ : St3) (x : D) (H1 : Hp3) (Q : VK3) : Prop := match x with
  | .str _ => t σ H1 fun xs H2 => r x xs H2 Q
  | _ => False
theorem g_mz {r : D → List D → Hp3 → VK3 → Prop} {to : TE3} {t : TA3} {σ : St3} {H : Hp3} {Q : VK3} (h : to σ H fun x H1 => mzk r t σ x H1 Q) : mz3 r to t σ H Q := h
theorem g_mzk {r : D → List D → Hp3 → VK3 → Prop} {t : TA3} {σ : St3} {z : Str} {H : Hp3} {Q : VK3} (h : t σ H fun xs H2 => r (.str z) xs H2 Q) : mzk r t σ (.str z) H Q := h
theorem g_join {z : Str} {ys : List Str} {a : Addr} {H : Hp3} {Q : VK3} (ha : H a = some (.lst (ys.map D.str))) (hl : (ys.map fun y => y.cps.size).sum + ys.length * z.cps.size ≤ 16777216) (q : Q (.str (joinZ z ys)) H) : r3join (.str z) [.ref a] H Q := by
  simp only [r3join, ha, strsOf_map]; exact ⟨hl, q⟩
theorem g_index {z y : Str} {i : Nat} {H : Hp3} {Q : VK3} (h : firstAt z y = some i) (q : Q (.int i) H) : r3index (.str z) [.str y] H Q := by
  simp only [r3index, h]; exact q
/-- a text's slice -/
def cutZ (z : Str) (lo hi : Option Int) : Str := ⟨(cut3 z.cps.toList lo hi).toArray⟩
def r3slZ : RSl := fun x lo hi H Q => match x with
  | .str z => z.length ≤ sizeLine ∧ Q (.str (cutZ z lo hi)) H
  | _ => False
theorem g_slZ {z : Str} {lo hi : Option Int} {H : Hp3} {Q : VK3} (hl : z.length ≤ sizeLine) (q : Q (.str (cutZ z lo hi)) H) : r3slZ (.str z) lo hi H Q := ⟨hl, q⟩
end L3

namespace L3
open PySem PySem.Spec PyProof.Rows PySem.Calls L2
section
variable {X : Cx}
end
end L3

/-! ### a text, walked -/
namespace L3
open PySem PySem.Spec PyProof.Rows L2
/-- the letters of x -/
def Itx (x : Str) : It := ⟨fun i _ => i < x.cps.size, fun i H v H' => H' = H ∧ ∃ c, x.cps[i]? = some c ∧ v = .str ⟨#[c]⟩, fun i _ => x.cps.size ≤ i⟩
theorem turn_text {P : Program} {w : World} {K : PySem.W.Frag} {tg : Expr} {ty : String} {x : Str} {t : Tok} (it : Addr)
    (hn : ["enumerate", "zip", "dict_itemiterator", "dict_reverseitemiterator", "odict_iterator", "itertools.zip_longest", "itertools.pairwise"].contains ty = false)
    (W : ∀ A' : Around, A'.handled = none → Walks P w A' it [it] [it] x.cps.size (SignAt x) (fun i h => h.IsStrIter it ty x t i))
    (S : ∀ (A : Around) (i : Nat) (s : Shared) (Q : Value → Shared → Prop) (E : Value → Shared → Prop), s.heap.IsStrIter it ty x t i → Q (.ref it) s → wpAny (model P w) A (pyIter (.ref it)) Q E s) :
    Turn P w K tg (Itx x) [it] it (fun i h => i ≤ x.cps.size ∧ h.IsStrIter it ty x t i) where
  mem := List.mem_singleton.mpr rfl
  obj := by
    rintro i h ⟨_, o, e, _, d⟩ b hb
    rw [List.mem_singleton.mp hb]
    exact ⟨o, e, fun v z => by rw [d] at z; cases z⟩
  keep := by
    rintro i h h' ⟨l, o, e, c⟩ k
    exact ⟨l, o, k it (List.mem_singleton.mpr rfl) o e, c⟩
  item := by
    intro X hP hw hK hc i pins s σ H E I hf st hg
    subst hP hw hK
    obtain ⟨f0, f1, f2, f3, f4, f5⟩ := hf it (List.mem_singleton.mpr rfl)
    refine (W X.A (I.ok.hd hc)).item i s _ _ hg st.2 fun v h' tk hv st' kk => ?_
    obtain ⟨c, u, hcx, rfl⟩ := hv
    have I1 : L2.Inv X pins σ H { s with heap := h', toks := tk } := I.turned (fun b o hb e => kk b o (fun z => hb (List.mem_singleton.mp z)) e) f0 f1 f3 f4 f5
    obtain ⟨o, e, hcl, d⟩ := id st'
    exact ⟨_, rfl, go_of (s := { s with heap := h', toks := tk }) e hcl d hn ⟨.str ⟨#[c]⟩, H, I1, ⟨u, rfl⟩, ⟨rfl, c, hcx, rfl⟩, ⟨hg, st'⟩, fun b hb => (hf b hb).1⟩⟩
  done := by
    intro X hP hw hK hc i pins s σ H E I hf st hg
    subst hP hw hK
    obtain ⟨f0, f1, f2, f3, f4, f5⟩ := hf it (List.mem_singleton.mpr rfl)
    have hi : i = x.cps.size := Nat.le_antisymm st.1 hg
    subst hi
    exact (W X.A (I.ok.hd hc)).done s _ _ st.2 fun h' tk kk => ⟨rfl, I.turned (t' := tk) (fun b o hb e => kk b o (fun z => hb (List.mem_singleton.mp z)) e) f0 f1 f3 f4 f5⟩
  self := fun A i s Q E st h => S A i s Q E st.2 h
section
variable {X : Cx}
def iText (tl : TE) : TI := fun σ H R => tl σ H fun x H1 => ∃ z, x = .str z ∧ R (Itx z) H1
theorem pi_text {tg l : Expr} {tl : TE} (hl : PE X l tl) : PI X tg l (iText tl) := by
  intro pins s σ H R I h
  refine thn (hl pins s σ H _ I h) fun v s1 ⟨x, H1, I1, r1, q1⟩ => ?_
  obtain ⟨z, rfl, q⟩ := q1
  obtain ⟨t, rfl⟩ := r1
  have fp : ∀ b ∈ [s1.heap.objs.size], FpOk X pins H1 b := fun b hb => by
    rw [List.mem_singleton.mp hb]
    exact I1.fpOk (Nat.le_refl _) (I1.hok.fresh (Nat.le_refl _))
  cases ha : z.cps.all (· < 128)
  · refine wpAny_pyIter_wide ha ?_
    exact ⟨s1.heap.objs.size, [s1.heap.objs.size], _, _, H1, rfl, I1.kept (t' := s1.toks) fun b o e => Heap.get?_push_of_some _ e,
      turn_text (ty := "str_iterator") (x := z) (t := t) _ (by decide) (fun A' hA => Walks.strWide hA _ z t) (fun A i s Q E st h => wpAny_pyIter_striter_wide st h), ⟨Nat.zero_le _, _, Heap.get?_push_size _ rfl, rfl, rfl⟩, fp, q⟩
  · refine wpAny_pyIter_ascii ha ?_
    exact ⟨s1.heap.objs.size, [s1.heap.objs.size], _, _, H1, rfl, I1.kept (t' := s1.toks) fun b o e => Heap.get?_push_of_some _ e,
      turn_text (ty := "str_ascii_iterator") (x := z) (t := t) _ (by decide) (fun A' hA => Walks.strAscii hA _ z t) (fun A i s Q E st h => wpAny_pyIter_striter_ascii st h), ⟨Nat.zero_le _, _, Heap.get?_push_size _ rfl, rfl, rfl⟩, fp, q⟩
theorem itOk_text {K : PySem.W.Frag} {H : Hp} {z : Str} : ItOk K H (lets z) (fun _ => True) (Itx z) := fun H3 H' tk hr _ => by
  have hl : (lets z).length = z.cps.size := by unfold lets; rw [List.length_map, Array.length_toList]
  refine ⟨fun i hi => ⟨by rw [hl] at hi; exact hi, fun x H'' y => ?_⟩, by rw [hl]; exact Nat.le_refl _⟩
  obtain ⟨e, c, hc, rfl⟩ := y
  subst e
  refine ⟨TK.refl, hr, .str ⟨#[c]⟩, ?_, .str _⟩
  unfold lets
  rw [List.getElem?_map, Array.getElem?_toList, hc]
  rfl
theorem i3_text {tg e : Expr} {te : TE3} (h : PE3 X e te) : PI3 X tg e (iz3 te) :=
  pi_imp (pi_text h) fun _ _ _ ⟨σ3, H3, R3, sr, hr, t, k⟩ => ⟨σ3, H3, _, sr, hr, t, fun x v H3a Ha tka hra rx qa => by
    cases rx with
    | str z => exact ⟨z, rfl, k _ _ _ _ _ tka hra itOk_text qa⟩
    | _ => exact qa.elim⟩
end
end L3

/-! ### texts' methods: join, index -/
namespace L3
open PySem PySem.Spec PyProof.Rows L2
section
variable {X : Cx}
theorem RepL.strs_inv {K : PySem.W.Frag} {H : Hp} : ∀ {bs : List Str} {vs : List V}, RepL K H (bs.map D.str) vs → vs = bs.map V.str
  | [], _, .nil => rfl
  | _ :: bs, _, .cons (.str _) t => by rw [List.map_cons, RepL.strs_inv (bs := bs) t]
theorem strs_of : ∀ {ys : List Str} {us : List Value}, Vals (ys.map V.str) us → StrsAre us ys
  | [], _, .nil => .nil
  | y :: ys, _, .cons r t => by
    obtain ⟨k, rfl⟩ := r
    exact .cons y k (strs_of t)
theorem mt_joinZ : MtR X "str.join" (fun x xs H Q => ∃ (z : Str) (a : Addr) (ys : List Str), x = .str z ∧ xs = [.ref a] ∧ SqL X.K H a (ys.map V.str) ∧ (ys.map fun y => y.cps.size).sum + ys.length * z.cps.size ≤ 16777216 ∧ Q (.str (joinZ z ys)) H) := by
  intro pins s σ H x xs v us Q I rx rs h
  obtain ⟨z, a, ys, rfl, rfl, hq, hl, q⟩ := h
  obtain ⟨t, rfl⟩ := rx
  obtain ⟨u, rfl, ru⟩ := vals1 rs
  cases ru
  obtain ⟨its, rv, pl, _⟩ := I.list hq
  refine join_list pl.isList (ys := ys) (by simpa using strs_of rv) hl fun t' k => ?_
  exact ⟨.str (joinZ z ys), H, I.kept (t' := k) fun _ _ e => e, ⟨t', rfl⟩, q⟩
theorem mt_indexZ : MtR X "str.index" (fun x xs H Q => ∃ (z y : Str) (i : Nat), x = .str z ∧ xs = [.str y] ∧ firstAt z y = some i ∧ Q (.int i) H) := by
  intro pins s σ H x xs v us Q I rx rs h
  obtain ⟨z, y, i, rfl, rfl, hi, q⟩ := h
  obtain ⟨t, rfl⟩ := rx
  obtain ⟨u, rfl, ru⟩ := vals1 rs
  obtain ⟨t2, rfl⟩ := ru
  unfold firstAt at hi
  rw [List.find?_range_eq_some] at hi
  obtain ⟨h1, h2, h3⟩ := hi
  rw [Bool.and_eq_true, decide_eq_true_eq] at h1
  have at_i : StrLaws.At z y z.length i := ⟨h1.1, h1.2⟩
  rcases StrLaws.occ_head z y 1 (Nat.le_refl _) with ⟨_, hn⟩ | ⟨j, r, e, hj, hn⟩
  · exact absurd at_i (hn i)
  · have hij : j = i := by
      rcases Nat.lt_trichotomy i j with hlt | heq | hgt
      · exact absurd at_i (hn i hlt)
      · exact heq.symm
      · have := h3 j hgt
        rw [Bool.not_eq_true', Bool.and_eq_false_iff] at this
        rcases this with w | w
        · rw [decide_eq_false_iff_not] at w
          exact absurd hj.1 w
        · have w2 := hj.2
          unfold Builtin.Str.subAt at w2
          exact absurd (show (z.cps.extract j (j + y.cps.size) == y.cps) = true from w2) (by rw [w]; decide)
    subst hij
    exact SC.index e ⟨.int j, H, I.tok _, ⟨_, rfl⟩, q⟩
theorem mt3_join : MtR X "str.join" (liftM X.K r3join) := by
  intro pins s σ H x xs v us Q I rx rs t
  obtain ⟨d, ds, H3, Q3, hr, rd, rds, t, k⟩ := t
  cases rd with
  | str z =>
    cases rds with
    | nil => exact t.elim
    | cons r1 r2 =>
      cases r2 with
      | cons _ _ => cases r1 <;> exact t.elim
      | nil =>
        cases r1 with
        | ref a =>
          simp only [r3join] at t
          split at t
          · rename_i ds ha
            split at t
            · rename_i ys e
              obtain ⟨vs, ga, ra⟩ := hr a _ ha
              have w := strsOf_inv e
              subst w
              have w := ra.strs_inv
              subst w
              exact mt_joinZ pins s σ H _ _ v us Q I rx rs ⟨z, a, ys, rfl, rfl, SqL.of ga, t.1, k _ _ _ _ TK.refl hr (.str _) t.2⟩
            · exact t.elim
          · exact t.elim
        | _ => exact t.elim
  | _ => exact t.elim
theorem mt3_index : MtR X "str.index" (liftM X.K r3index) := by
  intro pins s σ H x xs v us Q I rx rs t
  obtain ⟨d, ds, H3, Q3, hr, rd, rds, t, k⟩ := t
  cases rd with
  | str z =>
    cases rds with
    | nil => exact t.elim
    | cons r1 r2 =>
      cases r2 with
      | cons _ _ => cases r1 <;> exact t.elim
      | nil =>
        cases r1 with
        | str y =>
          simp only [r3index] at t
          split at t
          · rename_i i e
            exact mt_indexZ pins s σ H _ _ v us Q I rx rs ⟨z, y, i, rfl, rfl, e, k _ _ _ _ TK.refl hr (.int _) t⟩
          · exact t.elim
        | _ => exact t.elim
  | _ => exact t.elim
/-- z.m(e, ..) of a text -/
theorem p3_zm {o e : Expr} {es : List Expr} {to : TE3} {t : TA3} {name : Str} {apos cpos : Pos} {id : String} {r : D → List D → Hp3 → VK3 → Prop} (slot : Slot "str" name id) (hty : typeOf (.builtin id) = pure (.type "method_descriptor"))
    (hm : MtR X id (liftM X.K r)) (ho : PE3 X o to) (ha : PA3 X (e :: es) t) (hbase : attributeBase o name X.env (eval o X.env) = eval o X.env := by rfl)
    (hfew : ((backTo cpos (starEach (e :: es) X.env)).all (fun x => !x.1) && (backToKw cpos (keywordEach [] X.env)).all (fun x => x.1.isSome) && decide ((e :: es).length + ([] : List Keyword).length + (if ([] : List Keyword).isEmpty then 0 else 1) < 30)) = true := by rfl)
    (hline : (apos.endLine == cpos.line) = true := by rfl) (hs : starEach (e :: es) X.env = (false, eval e X.env) :: starEach es X.env := by rfl) (hplain : (backTo cpos (starEach es X.env)).any (·.1) = false := by rfl) :
    PE3 X (.Call (.Attribute o name apos) (e :: es) [] cpos) (mz3 r to t) :=
  pe_imp (pe_bm PySem.F.plainAttrs_str slot hty hm ho ha hbase hfew hline hs hplain) fun _ _ _ ⟨σ3, H3, Q3, sr, hr, t, k⟩ => ⟨σ3, H3, _, sr, hr, t, fun x v H3a Ha tka hra rx qa => by
    cases rx with
    | str z =>
      exact ⟨rfl, σ3, H3a, _, sr.mono tka, hra, qa, fun ds vs H3b Hb tkb hrb rs qb => ⟨.str z, ds, H3b, Q3, hrb, .str z, rs, qb, (k.mono tka).mono tkb⟩⟩
    | _ => exact qa.elim⟩
end
end L3

/-! ### slices of texts -/
namespace L3
open PySem PySem.Spec PyProof.Rows L2
section
variable {X : Cx}
theorem clip_ix (v : Option Int) (d n : Nat) : (match v with | none => (d : Int) | some i => max 0 (min (if i < 0 then i + (n : Int) else i) (n : Int))) = ((HT.sIx n d v : Nat) : Int) := by
  cases v with
  | none => rfl
  | some i =>
    unfold HT.sIx
    dsimp only
    split <;> omega
theorem picked_cut (lo hi : Option Int) (n : Nat) : Builtin.Str.strSliceIndices lo hi 1 n = (List.range (HT.sIx n n hi - HT.sIx n 0 lo)).map (HT.sIx n 0 lo + ·) := by
  have e1 := clip_ix lo 0 n
  have e2 := clip_ix hi n n
  rw [← sliceRange_one, ← e1, ← e2]
  cases lo <;> cases hi <;> rfl
theorem ix_le (v : Option Int) (n : Nat) : HT.sIx n n v ≤ n := by
  cases v with
  | none => exact Nat.le_refl n
  | some i =>
    unfold HT.sIx
    dsimp only
    split <;> omega
theorem slice_cut (z : Str) (lo hi : Option Int) : Txt.slice z lo hi = cutZ z lo hi := by
  have hl : z.cps.toList.length = z.length := Array.length_toList
  have hh := ix_le hi z.length
  unfold Txt.slice cutZ cut3
  rw [picked_cut, pick_run, hl]
  split
  · rename_i c
    rw [Bool.and_eq_true] at c
    have c2 := c.2
    rw [beq_iff_eq] at c2
    have c3 : HT.sIx z.length z.length hi - HT.sIx z.length 0 lo = z.length := by simpa using c2
    obtain ⟨a⟩ := z
    congr 1
    apply Array.ext'
    rw [c3]
    by_cases h0 : a.size = 0
    · have e : a = #[] := Array.eq_empty_of_size_eq_zero h0
      subst e
      simp
    · have hlo : HT.sIx (Str.length ⟨a⟩) 0 lo = 0 := by
        have h1 : Str.length ⟨a⟩ = a.size := rfl
        omega
      rw [hlo, List.drop_zero, List.take_of_length_le (by rw [hl]; exact Nat.le_refl _)]
  · rfl
theorem sl_text : SlR X (fun x lo hi H Q => ∃ z, x = .str z ∧ z.length ≤ sizeLine ∧ Q (.str (cutZ z lo hi)) H) := by
  intro pins s σ H x v vl vu lo hi sl Q I rx hs pl pu h
  obtain ⟨z, rfl, hz, q⟩ := h
  obtain ⟨t, rfl⟩ := rx
  have fin : ∀ t' k, EP X pins σ Q (.str (Txt.slice z lo hi) t') { s with toks := k } := fun t' k => by
    rw [slice_cut]
    exact ⟨.str (cutZ z lo hi), H, I.kept (t' := k) fun _ _ e => e, ⟨t', rfl⟩, q⟩
  refine ⟨"str", _, F.slot_str_getitem.lookup, typeIs_str _ _ _, ?_⟩
  cases pl with
  | none =>
    cases pu with
    | none => exact wpAny_getItem_str_slice (l := none) (u := none) (st := none) hs rfl (post_val_or_str ⟨Nat.le_trans (Txt.slice_le z _ _) hz, fin⟩)
    | int j u => exact wpAny_getItem_str_slice (l := none) (u := some (j, u)) (st := none) hs rfl (post_val_or_str ⟨Nat.le_trans (Txt.slice_le z _ _) hz, fin⟩)
  | int i w =>
    cases pu with
    | none => exact wpAny_getItem_str_slice (l := some (i, w)) (u := none) (st := none) hs rfl (post_val_or_str ⟨Nat.le_trans (Txt.slice_le z _ _) hz, fin⟩)
    | int j u => exact wpAny_getItem_str_slice (l := some (i, w)) (u := some (j, u)) (st := none) hs rfl (post_val_or_str ⟨Nat.le_trans (Txt.slice_le z _ _) hz, fin⟩)
theorem sl3_text : SlR X (liftSl X.K r3slZ) := by
  intro pins s σ H x v vl vu lo hi sl Q I rx hs pl pu h
  obtain ⟨d, H3, Q3, hr, rd, t, k⟩ := h
  cases rd with
  | str z => exact sl_text pins s σ H _ v vl vu lo hi sl Q I rx hs pl pu ⟨z, rfl, t.1, k _ _ _ _ TK.refl hr (.str _) t.2⟩
  | _ => exact t.elim
end
end L3

/-! ### numbers of some bits; tuples of numbers -/
namespace L3
open PySem L2
def Bt (n : Nat) (i : Int) : Prop := i.natAbs < 2 ^ n
section
variable {m n : Nat} {i j : Int}
theorem Bt.mono (h : Bt m i) (l : m ≤ n) : Bt n i := Nat.lt_of_lt_of_le h (Nat.pow_le_pow_right (by decide) l)
theorem Bt.of_le (h : Bt m j) (l : i.natAbs ≤ j.natAbs) : Bt m i := Nat.lt_of_le_of_lt l h
theorem Bt.add (h : Bt m i) (g : Bt n j) : Bt (max m n + 1) (i + j) := by
  have h' := Bt.mono h (Nat.le_max_left m n)
  have g' := Bt.mono g (Nat.le_max_right m n)
  unfold Bt at *
  rw [Nat.pow_succ]
  generalize 2 ^ max m n = p at *
  omega
theorem Bt.neg (h : Bt m i) : Bt m (-i) := by unfold Bt at *; rw [Int.natAbs_neg]; exact h
theorem Bt.sub (h : Bt m i) (g : Bt n j) : Bt (max m n + 1) (i - j) := by rw [Int.sub_eq_add_neg]; exact h.add g.neg
theorem Bt.mul (h : Bt m i) (g : Bt n j) : Bt (m + n) (i * j) := by
  unfold Bt at *
  rw [Int.natAbs_mul, Nat.pow_add]
  exact Nat.mul_lt_mul'' h g
theorem Bt.div (h : Bt m i) : Bt m (i / j) := h.of_le (Int.natAbs_ediv_le_natAbs i j)
theorem Bt.mod (g : Bt n j) (hj : 0 < j) : Bt n (i % j) := by
  refine g.of_le ?_
  have h1 := Int.emod_nonneg i (Int.ne_of_gt hj)
  have h2 := Int.emod_lt_of_pos i hj
  omega
theorem Bt.lit (h : i.natAbs < 2 ^ n) : Bt n i := h
theorem Bt.rng (h1 : -(2 ^ n : Nat) < i) (h2 : i < (2 ^ n : Nat)) : Bt n i := by unfold Bt; generalize 2 ^ n = p at *; omega
end
def CMulW (i j : Int) : Prop := CMul i j ∨ ∃ m n, Bt m i ∧ Bt n j ∧ m + n ≤ 134217728
theorem CMulW.of {m n : Nat} {i j : Int} (h : Bt m i) (g : Bt n j) (l : m + n ≤ 134217728) : CMulW i j := .inr ⟨m, n, h, g, l⟩
def CDivW (_ j : Int) : Prop := 0 < j ∧ Bt 8999 j
def i3mulW : R3 := rI3 CMulW fun i j => .int (i * j)
def i3divW : R3 := rI3 CDivW fun i j => .int (i / j)
section
variable {σ : St3} {H : Hp3} {Q : VK3} {i j : Int} {d x y : D} {ds es : List D}
theorem g_mulW (c : CMulW i j) (q : Q (.int (i * j)) H) : i3mulW (.int i) (.int j) H Q := ⟨c, q⟩
theorem g_divW (c : CDivW i j) (q : Q (.int (i / j)) H) : i3divW (.int i) (.int j) H Q := ⟨c, q⟩
theorem py_ints : ∀ ns : List Int, mapO (pyN 4) (ns.map D.int) = some (ns.map PyData.int)
  | [] => rfl
  | n :: ns => by
    have e : pyN 4 (D.int n) = some (PyData.int n) := rfl
    simp only [List.map_cons, mapO, e, py_ints ns]
theorem py_tupI (H : Hp3) (ns : List Int) : pyH H (.tup (ns.map D.int)) = some (.tuple (ns.map PyData.int)) := by
  have e : pyH H (.tup (ns.map D.int)) = (mapO (pyN 4) (ns.map D.int)).map .tuple := rfl
  rw [e, py_ints]; rfl
theorem eqvAll_ints : ∀ ms ns : List Int, PyData.eqvAll (ms.map PyData.int) (ns.map PyData.int) = decide (ms = ns)
  | [], [] => by simp [PyData.eqvAll]
  | [], _ :: _ => by simp [PyData.eqvAll]
  | _ :: _, [] => by simp [PyData.eqvAll]
  | m :: ms, n :: ns => by
    have e : PyData.eqv (.int m) (.int n) = decide (m = n) := by simp only [PyData.eqv]; rfl
    simp only [List.map_cons, PyData.eqvAll, eqvAll_ints ms ns, e, List.cons.injEq, Bool.decide_and]
theorem g_eqTL {ms ns : List Int} (q : Q (.bl (decide (ms = ns))) H) : r3eq (.tup (ms.map D.int)) (.tup (ns.map D.int)) H Q := by
  simp only [r3eq, py_tupI, PyData.eqv, eqvAll_ints]; exact q
theorem g_neTL {ms ns : List Int} (q : Q (.bl (!decide (ms = ns))) H) : r3ne (.tup (ms.map D.int)) (.tup (ns.map D.int)) H Q := by
  simp only [r3ne, py_tupI, PyData.eqv, eqvAll_ints]; exact q
theorem g_eqT3 {a b c a' b' c' : Int} (q : Q (.bl (decide ([a, b, c] = [a', b', c']))) H) : r3eq (.tup [.int a, .int b, .int c]) (.tup [.int a', .int b', .int c']) H Q := g_eqTL (ms := [a, b, c]) (ns := [a', b', c']) q
theorem g_neT3 {a b c a' b' c' : Int} (q : Q (.bl (!decide ([a, b, c] = [a', b', c']))) H) : r3ne (.tup [.int a, .int b, .int c]) (.tup [.int a', .int b', .int c']) H Q := g_neTL (ms := [a, b, c]) (ns := [a', b', c']) q
theorem Cp.rng {g : TG3} {σ0 : St3} {te : TE3} {lo : Int} {n : Nat} (F : Nat → D) (hl : n ≤ 1000)
    (hel : ∀ i : Nat, i < n → ∀ (R : VK3) (H2 : Hp3), Sub3 H H2 → (∀ H6, Sub3 H2 H6 → R (F i) H6) → g (.int (lo + (i : Int))) σ0 H2 fun σ2 H4 => te σ2 H4 R)
    (fin : ∀ p, H p = none → Q (.ref p) (upd3 H p (.lst ((List.range n).map F)))) : Cp g yes3 te σ0 (rng lo n) (fun _ => True) H Q :=
  Cp.map F (fun _ _ => trivial) (by rw [List.length_range]; exact hl) (fun _ a ha => hel a (List.mem_range.mp (List.mem_of_getElem? ha))) fin
end
/-! zip -/
def zipD (ds es : List D) : List D := List.zipWith (fun x y => D.tup [x, y]) ds es
def zpk (x y : D) (H : Hp3) (R : List D → (Hp3 → Prop) → Hp3 → Prop) : Prop := match x, y with
  | .ref a, .ref b => (match H a, H b with
    | some (.lst ds), some (.lst es) => R (zipD ds es) (fun H' => H' a = some (.lst ds) ∧ H' b = some (.lst es)) H
    | _, _ => False)
  | _, _ => False
def izp (ta tb : TE3) : TI3 := fun σ H R => ta σ H fun x H1 => tb σ H1 fun y H2 => zpk x y H2 R
section
variable {σ : St3} {H : Hp3} {a b : Addr} {ds es : List D}
theorem g_izp {ta tb : TE3} {R : List D → (Hp3 → Prop) → Hp3 → Prop} (h : ta σ H fun x H1 => tb σ H1 fun y H2 => zpk x y H2 R) : izp ta tb σ H R := h
theorem zipD_map {α β : Type} {f : α → D} {g : β → D} : ∀ (as : List α) (bs : List β), zipD (as.map f) (bs.map g) = (as.zip bs).map fun p => D.tup [f p.1, g p.2]
  | [], _ => rfl
  | _ :: _, [] => rfl
  | a :: as, b :: bs => by
    have ih := zipD_map (f := f) (g := g) as bs
    unfold zipD at ih ⊢
    rw [List.map_cons, List.map_cons, List.zipWith_cons_cons, ih, List.zip_cons_cons, List.map_cons]
/-! list(reversed(..)) of a list -/
def rvk (x : D) (H : Hp3) (Q : VK3) : Prop := match x with
  | .ref a => (match H a with
    | some (.lst ds) => ∀ p, H p = none → Q (.ref p) (upd3 H p (.lst ds.reverse))
    | _ => False)
  | _ => False
def rvl3 (te : TE3) : TE3 := fun σ H Q => te σ H fun x H1 => rvk x H1 Q
theorem g_rvl {te : TE3} {Q : VK3} (h : te σ H fun x H1 => rvk x H1 Q) : rvl3 te σ H Q := h
theorem g_rvk {Q : VK3} (ha : H a = some (.lst ds)) (h : ∀ p, H p = none → Q (.ref p) (upd3 H p (.lst ds.reverse))) : rvk (.ref a) H Q := by simp only [rvk, ha]; exact h
/-! a, b = x, y -/
def pr3 (i j : Nat) (ta tb : TE3) : TS3 := fun D0 σ H => ta σ H fun x H1 => tb σ H1 fun y H2 => D0.nx ((σ.set i (some x)).set j (some y)) H2
theorem g_pr {i j : Nat} {ta tb : TE3} {D0 : Ends3} (h : ta σ H fun x H1 => tb σ H1 fun y H2 => D0.nx ((σ.set i (some x)).set j (some y)) H2) : pr3 i j ta tb D0 σ H := h
/-! the module's dicts -/
def kdk (kvs : List (Str × D)) (x : D) (H : Hp3) (Q : VK3) : Prop := match x with
  | .str z => (match kvs.lookup z with
    | some d => Q d H
    | none => False)
  | _ => False
def kd3 (kvs : List (Str × D)) (te : TE3) : TE3 := fun σ H Q => te σ H fun x H1 => kdk kvs x H1 Q
theorem g_kd {kvs : List (Str × D)} {te : TE3} {Q : VK3} (h : te σ H fun x H1 => kdk kvs x H1 Q) : kd3 kvs te σ H Q := h
theorem g_kdk {kvs : List (Str × D)} {z : Str} {d : D} {Q : VK3} (hl : kvs.lookup z = some d) (h : Q d H) : kdk kvs (.str z) H Q := by simp only [kdk, hl]; exact h
theorem g_ixK {ds : List D} {i : Int} {d : D} {Q : VK3} (h : atI ds i = some d) (q : Q d H) : r3ix (.ktup ds) (.int i) H Q := by simp only [r3ix, h]; exact q
/-! reversed(text) -/
def irk (x : D) (H : Hp3) (R : List D → (Hp3 → Prop) → Hp3 → Prop) : Prop := match x with
  | .str z => z.length ≤ sizeLine ∧ R (lets z).reverse (fun _ => True) H
  | _ => False
def irv (te : TE3) : TI3 := fun σ H R => te σ H fun x H1 => irk x H1 R
theorem g_irv {te : TE3} {R : List D → (Hp3 → Prop) → Hp3 → Prop} (h : te σ H fun x H1 => irk x H1 R) : irv te σ H R := h
def ikd (kvs : List (Str × D)) : TI3 := fun _ H R => R (kvs.map fun p => D.str p.1) (fun _ => True) H
theorem g_ikd {kvs : List (Str × D)} {R : List D → (Hp3 → Prop) → Hp3 → Prop} (h : R (kvs.map fun p => D.str p.1) (fun _ => True) H) : ikd kvs σ H R := h
/-! name op= e -/
def au3 (k : Nat) (r : R3) (te : TE3) : TS3 := fun D0 σ H => match σ[k]? with
  | some (some x) => te σ H fun y H1 => r x y H1 fun z H2 => D0.nx (σ.set k (some z)) H2
  | _ => False
theorem g_au {k : Nat} {r : R3} {te : TE3} {D0 : Ends3} {x : D} (hx : σ[k]? = some (some x)) (h : te σ H fun y H1 => r x y H1 fun z H2 => D0.nx (σ.set k (some z)) H2) : au3 k r te D0 σ H := by
  simp only [au3, hx]; exact h
/-- ints or texts -/
def r3iadd : R3 := fun x y H Q => match x, y with
  | .int i, .int j => Q (.int (i + j)) H
  | .str i, .str j => i.length + j.length ≤ sizeLine ∧ Q (.str (i ++ j)) H
  | _, _ => False
def i3isub : R3 := rI30 fun i j => .int (i - j)
theorem g_iadd {i j : Int} {Q : VK3} (q : Q (.int (i + j)) H) : r3iadd (.int i) (.int j) H Q := q
theorem g_isub {i j : Int} {Q : VK3} (q : Q (.int (i - j)) H) : i3isub (.int i) (.int j) H Q := q
/-- max of two -/
def r3max2 : List D → Hp3 → VK3 → Prop := fun ds H Q => match ds with
  | [.int i, .int j] => Q (.int (if j > i then j else i)) H
  | _ => False
theorem g_max2 {i j : Int} {Q : VK3} (q : Q (.int (if j > i then j else i)) H) : r3max2 [.int i, .int j] H Q := q
/-! zip of a list and a text -/
def asc (z : Str) : Prop := z.cps.all (· < 128) = true
def ztk (x y : D) (H : Hp3) (R : List D → (Hp3 → Prop) → Hp3 → Prop) : Prop := match x, y with
  | .ref a, .str z => (match H a with
    | some (.lst ds) => asc z ∧ R (zipD ds (lets z)) (fun H' => H' a = some (.lst ds)) H
    | _ => False)
  | _, _ => False
def tzk (x y : D) (H : Hp3) (R : List D → (Hp3 → Prop) → Hp3 → Prop) : Prop := match x, y with
  | .str z, .ref a => (match H a with
    | some (.lst ds) => asc z ∧ R (zipD (lets z) ds) (fun H' => H' a = some (.lst ds)) H
    | _ => False)
  | _, _ => False
def izt (ta tb : TE3) : TI3 := fun σ H R => ta σ H fun x H1 => tb σ H1 fun y H2 => ztk x y H2 R
def itz (ta tb : TE3) : TI3 := fun σ H R => ta σ H fun x H1 => tb σ H1 fun y H2 => tzk x y H2 R
theorem g_izt {ta tb : TE3} {R : List D → (Hp3 → Prop) → Hp3 → Prop} (h : ta σ H fun x H1 => tb σ H1 fun y H2 => ztk x y H2 R) : izt ta tb σ H R := h
theorem g_itz {ta tb : TE3} {R : List D → (Hp3 → Prop) → Hp3 → Prop} (h : ta σ H fun x H1 => tb σ H1 fun y H2 => tzk x y H2 R) : itz ta tb σ H R := h
/-! text * number -/
def repZ (z : Str) (n : Nat) : Str := ⟨(List.replicate n z.cps.toList).flatten.toArray⟩
def r3mulZ : R3 := fun x y H Q => match x, y with
  | .str z, .int n => (0 ≤ n ∧ n ≤ 1000 ∧ z.length ≤ 1000) ∧ Q (.str (repZ z n.toNat)) H
  | _, _ => False
theorem g_mulZ {z : Str} {n : Int} {Q : VK3} (h0 : 0 ≤ n) (h1 : n ≤ 1000) (hz : z.length ≤ 1000) (q : Q (.str (repZ z n.toNat)) H) : r3mulZ (.str z) (.int n) H Q := ⟨⟨h0, h1, hz⟩, q⟩
end
end L3

namespace L3
open PySem PySem.Spec PyProof.Rows L2
section
variable {X : Cx}
theorem CMulW.ok {i j : Int} (h : CMulW i j) : IntMulOk i j := by
  rcases h with h | ⟨m, n, h1, h2, h3⟩
  · exact h.ok
  · exact IntMulOk.of_le (intBits_le_iff.mpr h1) (intBits_le_iff.mpr h2) h3
theorem Bt.log {j : Int} (h : Bt 8999 j) : j.natAbs.log2 < 9000 := by
  by_cases h0 : j.natAbs = 0
  · rw [h0]; decide +kernel
  · have := (Nat.log2_lt h0).mpr h
    omega
theorem op3_mulW : OpR X (binaryOp .Mult) (lift2 X.K i3mulW) := op3_of (opI fun _ _ _ _ _ _ _ hc q => mul_int q (CMulW.ok hc)) fun _ _ _ => .int _
theorem op3_fdivW : OpR X (binaryOp .FloorDiv) (lift2 X.K i3divW) := op3_of (opI fun i j _ _ _ _ _ hc q => by
  have h1 : (0 : Int) < j := hc.1
  exact floordiv_int (by omega) (by rw [Int.fdiv_eq_ediv_of_nonneg i (by omega)]; exact q) (.inl (PyProof.noPylong_of_log2 (Bt.log hc.2)))) fun _ _ _ => .int _
end
end L3

/-! ### zip of two lists -/
namespace L3
open PySem PySem.Spec PyProof.Rows L2
section
variable {X : Cx} {pins : List (Addr × Obj)} {σ : St} {H : Hp} {s : Shared} {h' : Heap}
/-- untracked records of ours have turned, and a new object is laid -/
theorem turnedNew {t' : Nat} {ch : List Addr} {T : Addr} {o : HO} (I : L2.Inv X pins σ H s) (k : ∀ b u, b ∉ ch → s.heap.get? b = some u → h'.get? b = some u)
    (hf : ∀ b ∈ ch, FpOk X pins H b) (hp : s.heap.objs.size ≤ T) (new : ObjOk X.prog X.w (upd H T o) h' T o) : L2.Inv X pins σ (upd H T o) { s with heap := h', toks := t' } := by
  have hn : H T = none := I.hok.fresh hp
  refine I.step (g' := s.gens) (d' := s.drawn) (ch := ch) (fun b hb => ?_) (fun b u _ _ hc e _ => k b u hc e) (fun b u _ _ hc e _ => ⟨u.slots, k b u hc e⟩)
    (fun b u _ e n => by rw [upd_ne (Nat.ne_of_lt (Nat.lt_of_lt_of_le (Heap.lt_size e) hp))]; exact n) (fun b u hc e => ⟨u, k b u hc e⟩)
    (fun b xs q => by rw [upd_ne (ne_of_none q hn)]; exact q) (fun b u xs q => by rw [upd_ne (ne_of_none q hn)]; exact q) (fun b ps q => ⟨#[], by rw [upd_ne (ne_of_none q hn), q]; simp⟩) (fun m hm => ?_) (fun b u e => ?_) I.bare
  · obtain ⟨f0, f1, f2, f3, f4, f5⟩ := hf b hb
    exact ⟨f3, f1, f4, f5⟩
  · obtain ⟨u, es, ep, hu, r⟩ := hm
    exact ⟨u, es, ep, k _ u (fun z => (hf _ z).2.1 rfl) hu, r⟩
  · by_cases hb : b = T
    · subst hb; rw [upd_same] at e; cases e; exact new
    · rw [upd_ne hb] at e
      refine (I.hok b u e).stay (fun c v hc q => k c v (fun z => ?_) q) (fun c q => by rw [upd_ne (ne_of_none q hn)]; exact q) fun c xs q => by rw [upd_ne (ne_of_none q hn)]; exact q
      have f0 := (hf c z).1
      rcases hc with rfl | hc
      · rw [f0] at e; cases e
      · rw [f0] at hc; cases hc
theorem turnedL {t' : Nat} {ch : List Addr} (I : L2.Inv X pins σ H s) (k : ∀ b u, b ∉ ch → s.heap.get? b = some u → h'.get? b = some u)
    (hf : ∀ b ∈ ch, FpOk X pins H b) : L2.Inv X pins σ H { s with heap := h', toks := t' } := by
  refine I.step (g' := s.gens) (d' := s.drawn) (ch := ch) (fun b hb => ?_) (fun b u _ _ hc e _ => k b u hc e) (fun b u _ _ hc e _ => ⟨u.slots, k b u hc e⟩)
    (fun b u _ e n => n) (fun b u hc e => ⟨u, k b u hc e⟩)
    (fun b xs q => q) (fun b u xs q => q) (fun b ps q => ⟨#[], by rw [q]; simp⟩) (fun m hm => ?_) (fun b u e => ?_) I.bare
  · obtain ⟨f0, f1, f2, f3, f4, f5⟩ := hf b hb
    exact ⟨f3, f1, f4, f5⟩
  · obtain ⟨u, es, ep, hu, r⟩ := hm
    exact ⟨u, es, ep, k _ u (fun z => (hf _ z).2.1 rfl) hu, r⟩
  · refine (I.hok b u e).stay (fun c v hc q => k c v (fun z => ?_) q) (fun c q => q) fun c xs q => q
    have f0 := (hf c z).1
    rcases hc with rfl | hc
    · rw [f0] at e; cases e
    · rw [f0] at hc; cases hc
end
section
variable {X : Cx} {tg : Expr}
theorem boot_zip : bootBuiltins "zip" = some (.type "zip") := by rfl
theorem RepL.zip {K : PySem.W.Frag} {H : Hp} {ds es : List D} {xs ys : List V} {i : Nat} {x y : V} (r : RepL K H ds xs) (r' : RepL K H es ys) (hx : xs[i]? = some x) (hy : ys[i]? = some y) : ∃ d e, (zipD ds es)[i]? = some (.tup [d, e]) ∧ Rep K H d x ∧ Rep K H e y := by
  obtain ⟨d, hd, rd⟩ := r.getV hx
  obtain ⟨e, he, re⟩ := r'.getV hy
  refine ⟨d, e, ?_, rd, re⟩
  unfold zipD
  rw [List.getElem?_zipWith, hd, he]
end
end L3

/-! ### list(reversed(..)) of a list -/
namespace L3
open PySem PySem.Spec PyProof.Rows L2
section
variable {prog : Program} {w : World} {A : Around} {E : Value → Shared → Prop} {s : Shared}
end
theorem Vals.snoc1 : ∀ {xs : List V} {us : List Value} {x : V} {u : Value}, Vals xs us → RelV x u → Vals (xs ++ [x]) (us ++ [u])
  | _, _, _, _, .nil, r => .cons r .nil
  | _, _, _, _, .cons h t, r => .cons h (Vals.snoc1 t r)
theorem Vals.rev : ∀ {xs : List V} {us : List Value}, Vals xs us → Vals xs.reverse us.reverse
  | _, _, .nil => .nil
  | _, _, .cons h t => by rw [List.reverse_cons, List.reverse_cons]; exact Vals.snoc1 (Vals.rev t) h
theorem RepL.rev {K : PySem.W.Frag} {H : Hp} : ∀ {ds : List D} {vs : List V}, RepL K H ds vs → RepL K H ds.reverse vs.reverse
  | _, _, .nil => .nil
  | _, _, .cons h t => by rw [List.reverse_cons, List.reverse_cons]; exact RepL.snoc (RepL.rev t) h
section
variable {X : Cx}
theorem boot_list : bootBuiltins "list" = some (.type "list") := by rfl
end
end L3

/-! ### the module's own dicts, keyed by texts -/
namespace L3
open PySem PySem.Spec PyProof.Rows L2
/-- a thing of the module's -/
inductive RepK (K : PySem.W.Frag) : D → Value → Prop
  | str (x : Str) (t : Tok) : RepK K (.str x) (.str x t)
  | int (i : Int) (t : Tok) : RepK K (.int i) (.int i t)
  | tupI {a : Addr} {ns : List Int} : KTp K a (ns.map V.int) → RepK K (.ktup (ns.map D.int)) (.ref a)
theorem RepK.rep {K : PySem.W.Frag} {H : Hp} {d : D} {v : Value} (r : RepK K d v) : ∃ y, RelV y v ∧ Rep K H d y := by
  cases r with
  | str x t => exact ⟨.str x, ⟨t, rfl⟩, .str x⟩
  | int i t => exact ⟨.int i, ⟨t, rfl⟩, .int i⟩
  | tupI h => exact ⟨.ref _, rfl, .ktup h (RepL.ints _)⟩
inductive EntR (w : World) (K : PySem.W.Frag) : List DictEntry → List (Str × D) → Prop
  | nil : EntR w K [] []
  | cons {k : Str} {d : D} {t : Tok} {v : Value} {es : List DictEntry} {kvs : List (Str × D)} : RepK K d v → EntR w K es kvs → EntR w K (⟨hashStr w k, .str k t, v⟩ :: es) ((k, d) :: kvs)
structure DC (K : PySem.W.Frag) (w : World) (a : Addr) (kvs : List (Str × D)) : Prop where
  ob : ∃ o es ep, K.lookup a = some o ∧ o.ExactDict ∧ o.data = .dict es ep ∧ EntR w K es.toList kvs
  nd : (kvs.map (·.1)).Nodup
  ns : (a == sysModules) = false
/-- as the library has it -/
theorem EntR.pairs {P : Program} {w : World} {K : PySem.W.Frag} : ∀ {es : List DictEntry} {kvs : List (Str × D)}, EntR w K es kvs → ∃ vs : List (Key × Value), Pairs (mixKind P w) es vs ∧ vs.map (·.1) = kvs.map (fun p => (Sum.inr p.1 : Key)) ∧
    (∀ e ∈ es, ∃ k, (mixKind P w).is k e.key = true ∧ e.hash = (mixKind P w).hash k) ∧ (∀ z d, kvs.lookup z = some d → ∃ v, valueAt vs (.inr z) = some v ∧ RepK K d v) ∧ ∀ z, kvs.lookup z = none → valueAt vs (.inr z) = none
  | _, _, .nil => ⟨[], .nil, rfl, by simp, by simp, fun z _ => rfl⟩
  | _, _, .cons (k := k) (d := d) (t := t) (v := v) r h => by
    obtain ⟨vs, h1, h2, h3, h4, h5⟩ := EntR.pairs (P := P) h
    refine ⟨(.inr k, v) :: vs, .cons (mixKind_str P w k t) rfl h1, by rw [List.map_cons, h2]; rfl, ?_, ?_, ?_⟩
    · intro e he
      rcases List.mem_cons.mp he with rfl | he
      · exact ⟨.inr k, mixKind_str P w k t, rfl⟩
      · exact h3 e he
    · intro z dz hz
      by_cases e : z = k
      · subst e
        rw [List.lookup_cons, beq_self_eq_true] at hz
        cases hz
        exact ⟨v, by unfold valueAt; rw [List.find?_cons_of_pos (by simp)]; rfl, r⟩
      · have hb : (z == k) = false := beq_eq_false_iff_ne.mpr e
        rw [List.lookup_cons, hb] at hz
        obtain ⟨v', q1, q2⟩ := h4 z dz hz
        refine ⟨v', ?_, q2⟩
        unfold valueAt at q1 ⊢
        rw [List.find?_cons_of_neg (by simp; exact fun q => e q.symm)]
        exact q1
    · intro z hz
      have e : z ≠ k := by
        rintro rfl
        rw [List.lookup_cons, beq_self_eq_true] at hz
        cases hz
      have hb : (z == k) = false := beq_eq_false_iff_ne.mpr e
      rw [List.lookup_cons, hb] at hz
      have q1 := h5 z hz
      unfold valueAt at q1 ⊢
      rw [List.find?_cons_of_neg (by simp; exact fun q => e q.symm)]
      exact q1
theorem DC.dict {K : PySem.W.Frag} {P : Program} {w : World} {a : Addr} {kvs : List (Str × D)} {h : Heap} (c : DC K w a kvs) (hk : K.In h) : ∃ vs : List (Key × Value), h.DictOf (mixKind P w) a vs ∧ (∀ z d, kvs.lookup z = some d → ∃ v, valueAt vs (.inr z) = some v ∧ RepK K d v) ∧ ∀ z, kvs.lookup z = none → valueAt vs (.inr z) = none := by
  obtain ⟨o, es, ep, h1, h2, h3, h4⟩ := c.ob
  obtain ⟨vs, p1, p2, p3, p4, p5⟩ := EntR.pairs (P := P) h4
  refine ⟨vs, ⟨o, es, ep, hk a o h1, h2, h3, fun e he => p3 e (by simpa using he), p1, ?_⟩, p4, p5⟩
  rw [p2]
  have := c.nd
  rw [List.nodup_iff_pairwise_ne, List.pairwise_map] at this ⊢
  exact this.imp fun h q => h (Sum.inr.inj q)
section
variable {X : Cx}
/-- D[e] -/
def tKd (K : PySem.W.Frag) (kvs : List (Str × D)) (te : TE) : TE := fun σ H Q => te σ H fun x H1 => ∃ z d, x = .str z ∧ kvs.lookup z = some d ∧ ∀ v y, RelV y v → Rep K H1 d y → Q y H1
theorem pe_kd {x : Str} {a : Addr} {kvs : List (Str × D)} {e : Expr} {te : TE} {p pos : Pos} (hg : Gl X x) (hm : X.mg x = some (.ref a)) (c : DC X.K X.w a kvs) (he : PE X e te) (hs : NoSl e) (hd : (x == ("__debug__" : Str)) = false := by decide) : PE X (.Subscript (.Name x p) e pos) (tKd X.K kvs te) := by
  intro pins s σ H Q I h
  refine subD_of PySem.F.slot_dict_getitem.lookup hs (ld_glob I hg hm (thn (he pins s σ H _ I h) fun iv s2 ⟨y, H2, I2, ry, z, d, ey, hl, q2⟩ => ?_) hd)
  subst ey
  obtain ⟨vs, dd, h1, _⟩ := c.dict (P := X.prog) I2.kIn
  obtain ⟨v, hv, rk⟩ := h1 z d hl
  obtain ⟨y, ryv, rep⟩ := rk.rep (H := H2)
  exact ⟨dd.typeIs, wpAny_getItem_of (kV_is (k := .inr z) ry) dd.mapOf hv ⟨y, H2, I2.tok _, ryv, q2 v y ryv rep⟩⟩
theorem p3_kd {x : Str} {kvs : List (Str × D)} {e : Expr} {te : TE3} {p pos : Pos} (hg : Gl X x) (hm : ∃ a, X.mg x = some (.ref a) ∧ DC X.K X.w a kvs) (he : PE3 X e te) (hs : NoSl e := by exact fun _ _ => rfl) (hd : (x == ("__debug__" : Str)) = false := by decide) :
    PE3 X (.Subscript (.Name x p) e pos) (kd3 kvs te) := by
  obtain ⟨a, hm, c⟩ := hm
  refine pe_imp (pe_kd hg hm c he hs hd) fun _ _ _ h => ?_
  obtain ⟨σ3, H3, Q3, sr, hr, t, k⟩ := h
  refine ⟨σ3, H3, _, sr, hr, t, fun x v H3a Ha tka hra rx qa => ?_⟩
  cases rx with
  | str z =>
    simp only [kdk] at qa
    split at qa
    · rename_i d hl
      exact ⟨z, d, rfl, hl, fun v y _ rep => k _ _ _ _ tka hra rep qa⟩
    · exact qa.elim
  | _ => exact qa.elim
end
section
variable {X : Cx} {elt iter : Expr} {ifs : List Expr} {scope : Scope} {pos px px' py pt spos : Pos} {x x' y : Str} {fv : FV} {wi : TI3} {tc : TT3} {te : TE3} {kk : Nat}
end
end L3

namespace L3
open PySem PySem.Spec PyProof.Rows L2
section
variable {prog : Program} {w : World} {A : Around} {E : Value → Shared → Prop} {s : Shared} {x : Str} {t : Tok} {it : Addr}
end
section
variable {X : Cx} {tg : Expr}
end
end L3

/-! ### the module's dicts, walked -/
namespace L3
open PySem PySem.Spec PyProof.Rows L2
theorem DC.at {K : PySem.W.Frag} {P : Program} {w : World} {a : Addr} {kvs : List (Str × D)} (c : DC K w a kvs) : ∃ (vs : List (Key × Value)) (ep : Nat), (∀ h : Heap, K.In h → h.DictAt (mixKind P w) a vs ep) ∧ vs.map (·.1) = kvs.map (fun p => (Sum.inr p.1 : Key)) := by
  obtain ⟨o, es, ep, h1, h2, h3, h4⟩ := c.ob
  obtain ⟨vs, p1, p2, p3, p4, p5⟩ := EntR.pairs (P := P) h4
  refine ⟨vs, ep, fun h hk => ⟨o, es, hk a o h1, h2, h3, fun e he => p3 e (by simpa using he), p1, ?_⟩, p2⟩
  rw [p2]
  have := c.nd
  rw [List.nodup_iff_pairwise_ne, List.pairwise_map] at this ⊢
  exact this.imp fun h q => h (Sum.inr.inj q)
section
variable {X : Cx} {tg : Expr}
end
end L3

/-! ### name op= e; the script + a list; max of two -/
namespace L3
open PySem PySem.Spec PyProof.Rows L2
section
variable {X : Cx}
theorem cb3_max2 (hc : X.calm = true) : CallR X (.builtin "max") (liftC X.K r3max2) := by
  intro pins s σ H xs us Q I rs t
  obtain ⟨ds, H3, Q3, hr, rd, t, k⟩ := t
  cases rd with
  | nil => exact t.elim
  | cons r1 r2 =>
    cases r2 with
    | nil => cases r1 <;> exact t.elim
    | cons r2 r3 =>
      cases r3 with
      | cons _ _ => cases r1 <;> cases r2 <;> exact t.elim
      | nil =>
        cases r1 with
        | int i =>
          cases r2 with
          | int j => exact call_max2 hc pins s σ H _ us Q I rs ⟨i, j, rfl, k _ _ _ _ TK.refl hr (.int _) t⟩
          | _ => exact t.elim
        | _ => exact t.elim
end
end L3

/-! ### zip of a list and a text, of a text and a list -/
namespace L3
open PySem PySem.Spec PyProof.Rows L2
/-- what is drawn from: addresses apart -/
structure ZAp (z TI TO i1 i2 : Addr) (f1 f2 : List Addr) : Prop where
  TIz : TI ≠ z
  TOz : TO ≠ z
  i1z : i1 ≠ z
  i2z : i2 ≠ z
  TITO : TI ≠ TO
  TIi1 : TI ≠ i1
  TIi2 : TI ≠ i2
  TOi1 : TO ≠ i1
  TOi2 : TO ≠ i2
  i12 : i1 ≠ i2
  a1 : z ∉ f1 ∧ TO ∉ f1 ∧ i2 ∉ f1
  a2 : z ∉ f2 ∧ TO ∉ f2 ∧ i1 ∉ f2
section
variable {prog : Program} {w : World} {A : Around} {E : Value → Shared → Prop} {s : Shared}
variable {z TI TO i1 i2 : Addr} {f1 f2 : List Addr} {n1 n2 k : Nat} {P1 P2 : Nat → Value → Prop} {S1 S2 : Nat → Heap → Prop} {a b : Value}
theorem zipD_item {Q : Option Value → Shared → Prop} (D : ZAp z TI TO i1 i2 f1 f2) (D1 : Draws prog w A.in1 i1 f1 n1 P1 S1) (D2 : Draws prog w A.in1 i2 f2 n2 P2 S2) (h1 : k < n1) (h2 : k < n2)
    (hz : IsZip s.heap z TI TO .none) (hTI : IsPair s.heap TI (.ref i1) (.ref i2)) (hTO : IsPair s.heap TO a b) (st1 : S1 k s.heap) (st2 : S2 k s.heap)
    (hQ : ∀ h' tk x y, P1 k x → P2 k y → IsZip h' z TI TO (rawInt s.heap.objs.size) → IsPair h' TO x y → S1 (k + 1) h' → S2 (k + 1) h' → IsPair h' s.heap.objs.size x y →
      (∀ c o, c ≠ z → c ≠ TO → c ≠ i1 → c ≠ i2 → s.heap.get? c = some o → h'.get? c = some o) → Q (some (.ref s.heap.objs.size)) { s with heap := h', toks := tk }) :
    wpAny (model prog w) A (pyNext (.ref z)) Q E s := by
  have hT : s.TypeIs (.ref z) "zip" := ⟨_, hz, rfl⟩
  unfold pyNext
  refine wpAny_bind (wpAny_attempt (wpAny_callSpecial?_slot (name := Str.ofString "__next__") hT F.slot_zip_next (wpAny_call_entry F.slot_zip_next hT F.entry_zip_next ?_ (F.args_zip_next_1 _))))
  show wpAny _ _ (field (.ref z) 2 >>= _) _ _ _
  refine wpAny_bind (wpAny_field hz rfl (x := .bool false) rfl ?_)
  show wpAny _ _ (field (.ref z) 3 >>= _) _ _ _
  refine wpAny_bind (wpAny_field hz rfl (x := .ref TI) rfl ?_)
  refine wpAny_bind (wpAny_seqItems hTI rfl ?_)
  show wpAny _ _ (Builtin.SmallTypes.ownedTupleIsFree (.ref z) >>= _) _ _ _
  refine wpAny_bind ?_
  unfold Builtin.SmallTypes.ownedTupleIsFree
  refine wpAny_bind (wpAny_field hz rfl (x := .none) rfl (wpAny_pure ?_))
  simp only [if_true]
  refine wpAny_bind (wpAny_rule ?_)
  refine wpAny_bind (wpAny_field hz rfl (x := .ref TO) rfl ?_)
  refine wpAny_bind (wpAny_setField_rec hz (by simp) fun h₁ hz₁ hs₁ => ?_)
  replace hz₁ : IsZip h₁ z TI TO .ellipsis := hz₁
  refine wpAny_bind ?_
  simp only [List.zipIdx_cons, List.zipIdx_nil, List.forIn_cons, List.forIn_nil]
  have ne : ∀ {c d : Addr} {f : List Addr}, c ∈ f → d ∉ f → c ≠ d := fun hc hd e => hd (e ▸ hc)
  -- the first one
  refine wpAny_bind (wpAny_bind (wpAny_onRaise ?_))
  show wpAny _ _ (Builtin.SmallTypes.nextOf (.ref i1) >>= _) _ _ _
  have s11 : S1 k h₁ := D1.frame _ _ _ st1 fun c hc o e => (hs₁.2 c (ne hc D.a1.1)).trans e
  have s21 : S2 k h₁ := D2.frame _ _ _ st2 fun c hc o e => (hs₁.2 c (ne hc D.a2.1)).trans e
  refine wpAny_bind (D1.item k { s with heap := h₁ } _ _ h1 s11 fun x h₂ tk₂ hx s12 hs₂ => wpAny_pure ?_)
  have hTO₂ : IsPair h₂ TO a b := (hs₂.2 TO D.TOi1).trans ((hs₁.2 TO D.TOz).trans hTO)
  refine wpAny_bind (wpAny_seqItems (s := { s with heap := h₂, toks := tk₂ }) hTO₂ rfl ?_)
  refine wpAny_bind (wpAny_updateSeq_pair (s := { s with heap := h₂, toks := tk₂ }) hTO₂ fun h₃ hTO₃ hs₃ => ?_)
  replace hTO₃ : IsPair h₃ TO x b := hTO₃
  refine wpAny_bind (wpAny_letGo (wpAny_pure ?_))
  have s13 : S1 (k + 1) h₃ := D1.frame _ _ _ s12 fun c hc o e => (hs₃.2 c (ne hc D.a1.2.1)).trans e
  have s23 : S2 k h₃ := D2.frame _ _ _ s21 fun c hc o e => (hs₃.2 c (ne hc D.a2.2.1)).trans ((hs₂.2 c (ne hc D.a2.2.2)).trans e)
  -- the second one
  refine wpAny_bind (wpAny_bind (wpAny_onRaise ?_))
  show wpAny _ _ (Builtin.SmallTypes.nextOf (.ref i2) >>= _) _ _ _
  refine wpAny_bind (D2.item k { s with heap := h₃, toks := tk₂ } _ _ h2 s23 fun y h₄ tk₄ hy s24 hs₄ => wpAny_pure ?_)
  have hTO₄ : IsPair h₄ TO x b := (hs₄.2 TO D.TOi2).trans hTO₃
  refine wpAny_bind (wpAny_seqItems (s := { s with heap := h₄, toks := tk₄ }) hTO₄ rfl ?_)
  refine wpAny_bind (wpAny_updateSeq_pair (s := { s with heap := h₄, toks := tk₄ }) hTO₄ fun h₅ hTO₅ hs₅ => ?_)
  replace hTO₅ : IsPair h₅ TO x y := hTO₅
  refine wpAny_bind (wpAny_letGo (wpAny_pure (wpAny_pure ?_)))
  have s14 : S1 (k + 1) h₅ := D1.frame _ _ _ s13 fun c hc o e => (hs₅.2 c (ne hc D.a1.2.1)).trans ((hs₄.2 c (ne hc D.a1.2.2)).trans e)
  have s25 : S2 (k + 1) h₅ := D2.frame _ _ _ s24 fun c hc o e => (hs₅.2 c (ne hc D.a2.2.1)).trans e
  refine wpAny_bind (wpAny_seqItems (s := { s with heap := h₅, toks := tk₄ }) hTO₅ rfl ?_)
  refine wpAny_bind (wpAny_newTuple ?_)
  have hsz : h₅.objs.size = s.heap.objs.size := by rw [hs₅.1, hs₄.1, hs₃.1, hs₂.1, hs₁.1]
  have hz₅ : IsZip h₅ z TI TO .ellipsis := (hs₅.2 z D.TOz.symm).trans ((hs₄.2 z D.i2z.symm).trans ((hs₃.2 z D.TOz.symm).trans ((hs₂.2 z D.i1z.symm).trans hz₁)))
  have hk₅ : ∀ c o, c ≠ z → c ≠ TO → c ≠ i1 → c ≠ i2 → s.heap.get? c = some o → h₅.get? c = some o := fun c o c1 c2 c3 c4 e =>
    (hs₅.2 c c2).trans ((hs₄.2 c c4).trans ((hs₃.2 c c2).trans ((hs₂.2 c c3).trans ((hs₁.2 c c1).trans e))))
  have hzlt : z < h₅.objs.size := Heap.lt_size hz₅
  show wpAny _ _ (Builtin.SmallTypes.ownedTupleHandOut (.ref z) (.ref h₅.objs.size) >>= _) _ _ _
  refine wpAny_bind ?_
  unfold Builtin.SmallTypes.ownedTupleHandOut
  have hz₆ : IsZip (h₅.push { cls := .type "tuple", data := .seq #[x, y] }) z TI TO .ellipsis := Heap.get?_push_of_some _ hz₅
  refine wpAny_bind (wpAny_setField_rec (s := { s with heap := h₅.push { cls := .type "tuple", data := .seq #[x, y] }, toks := tk₄ }) hz₆ (by simp) fun h₇ hz₇ hs₇ => ?_)
  replace hz₇ : IsZip h₇ z TI TO (rawInt h₅.objs.size) := hz₇
  refine wpAny_setField_rec (s := { s with heap := h₇, toks := tk₄ }) hz₇ (by simp) fun h₈ hz₈ hs₈ => ?_
  replace hz₈ : IsZip h₈ z TI TO (rawInt h₅.objs.size) := hz₈
  have up : ∀ c o, c ≠ z → h₅.get? c = some o → h₈.get? c = some o := fun c o c1 e => (hs₈.2 c c1).trans ((hs₇.2 c c1).trans (Heap.get?_push_of_some _ e))
  have hT₈ : IsPair h₈ h₅.objs.size x y := (hs₈.2 _ (Nat.ne_of_gt hzlt)).trans ((hs₇.2 _ (Nat.ne_of_gt hzlt)).trans (Heap.get?_push_size _ rfl))
  rw [hsz] at hz₈ hT₈
  refine wpAny_pure ⟨_, rfl, wpAny_pure ?_⟩
  show Q (some (.ref h₅.objs.size)) _
  rw [hsz]
  exact hQ h₈ tk₄ x y hx hy hz₈ (up _ _ D.TOz hTO₅) (D1.frame _ _ _ s14 fun c hc o e => up c o (ne hc D.a1.1) e) (D2.frame _ _ _ s25 fun c hc o e => up c o (ne hc D.a2.1) e) hT₈ fun c o c1 c2 c3 c4 e => up c o c1 (hk₅ c o c1 c2 c3 c4 e)
/-- an iterator at its end -/
def Endd (prog : Program) (w : World) (A : Around) (it : Addr) (S : Heap → Prop) : Prop := ∀ (s : Shared) (Q : Value → Shared → Prop) (E : Value → Shared → Prop), S s.heap →
  (∀ h' e, Heap.ExtBut it s.heap h' → (∃ o, h'.get? e = some o ∧ o.cls = .type "StopIteration") → E (.ref e) { s with heap := h' }) → wpAny (model prog w) A (Builtin.SmallTypes.nextOf (.ref it)) Q E s
theorem zipD_end {Q : Option Value → Shared → Prop} (D : ZAp z TI TO i1 i2 f1 f2) (fr1 : ∀ h h' : Heap, S1 k h → (∀ b ∈ f1, ∀ o, h.get? b = some o → h'.get? b = some o) → S1 k h') (fr2 : ∀ h h' : Heap, S2 k h → (∀ b ∈ f2, ∀ o, h.get? b = some o → h'.get? b = some o) → S2 k h')
    (hend : Endd prog w A.in1 i1 (S1 k) ∨ ((k < n1 ∧ Draws prog w A.in1 i1 f1 n1 P1 S1) ∧ Endd prog w A.in1 i2 (S2 k)))
    (hz : IsZip s.heap z TI TO .none) (hTI : IsPair s.heap TI (.ref i1) (.ref i2)) (hTO : IsPair s.heap TO a b) (st1 : S1 k s.heap) (st2 : S2 k s.heap)
    (hQ : ∀ h' tk, (∀ c o, c ≠ z → c ≠ TO → c ≠ i1 → c ≠ i2 → s.heap.get? c = some o → h'.get? c = some o) → Q none { s with heap := h', toks := tk }) :
    wpAny (model prog w) A (pyNext (.ref z)) Q E s := by
  have hT : s.TypeIs (.ref z) "zip" := ⟨_, hz, rfl⟩
  unfold pyNext
  refine wpAny_bind (wpAny_attempt (wpAny_callSpecial?_slot (name := Str.ofString "__next__") hT F.slot_zip_next (wpAny_call_entry F.slot_zip_next hT F.entry_zip_next ?_ (F.args_zip_next_1 _))))
  have fin : ∀ h' e tk, (∀ c o, c ≠ z → c ≠ TO → c ≠ i1 → c ≠ i2 → s.heap.get? c = some o → h'.get? c = some o) → (∃ o, h'.get? e = some o ∧ o.cls = .type "StopIteration") →
      wpAny (model prog w) A (do let r ← isInstance (.ref e) (Value.type "StopIteration"); if r = true then pure none else throw (.ref e)) Q E { s with heap := h', toks := tk } := by
    rintro h' e tk hk ⟨o, ho, hc⟩
    refine wpAny_bind (wpAny_isInstance (T := "StopIteration") (b := true) ⟨o, ho, hc⟩ isSubtype_stop ?_)
    exact wpAny_pure (hQ h' tk hk)
  show wpAny _ _ (field (.ref z) 2 >>= _) _ _ _
  refine wpAny_bind (wpAny_field hz rfl (x := .bool false) rfl ?_)
  show wpAny _ _ (field (.ref z) 3 >>= _) _ _ _
  refine wpAny_bind (wpAny_field hz rfl (x := .ref TI) rfl ?_)
  refine wpAny_bind (wpAny_seqItems hTI rfl ?_)
  show wpAny _ _ (Builtin.SmallTypes.ownedTupleIsFree (.ref z) >>= _) _ _ _
  refine wpAny_bind ?_
  unfold Builtin.SmallTypes.ownedTupleIsFree
  refine wpAny_bind (wpAny_field hz rfl (x := .none) rfl (wpAny_pure ?_))
  simp only [if_true]
  refine wpAny_bind (wpAny_rule ?_)
  refine wpAny_bind (wpAny_field hz rfl (x := .ref TO) rfl ?_)
  refine wpAny_bind (wpAny_setField_rec hz (by simp) fun h₁ hz₁ hs₁ => ?_)
  replace hz₁ : IsZip h₁ z TI TO .ellipsis := hz₁
  refine wpAny_bind ?_
  simp only [List.zipIdx_cons, List.zipIdx_nil, List.forIn_cons, List.forIn_nil]
  have ne : ∀ {c d : Addr} {f : List Addr}, c ∈ f → d ∉ f → c ≠ d := fun hc hd e => hd (e ▸ hc)
  refine wpAny_bind (wpAny_bind (wpAny_onRaise ?_))
  show wpAny _ _ (Builtin.SmallTypes.nextOf (.ref i1) >>= _) _ _ _
  have s11 : S1 k h₁ := fr1 _ _ st1 fun c hc o e => (hs₁.2 c (ne hc D.a1.1)).trans e
  have s21 : S2 k h₁ := fr2 _ _ st2 fun c hc o e => (hs₁.2 c (ne hc D.a2.1)).trans e
  rcases hend with hend | ⟨⟨hk1, D1⟩, hend⟩
  · refine wpAny_bind (hend { s with heap := h₁ } _ _ s11 fun h₂ e hs₂ he => ?_)
    obtain ⟨oe, hoe, hce⟩ := he
    have hz₂ : IsZip h₂ z TI TO .ellipsis := hs₂ _ _ D.i1z.symm hz₁
    have hez : e ≠ z := fun x => by subst x; rw [hz₂] at hoe; cases hoe; simp at hce
    refine wpAny_setField_rec (s := { s with heap := h₂ }) hz₂ (by simp) fun h₃ _ hs₃ => ?_
    exact fin h₃ e s.toks (fun c o c1 _ c3 _ x => (hs₃.2 c c1).trans (hs₂ c o c3 ((hs₁.2 c c1).trans x))) ⟨oe, (hs₃.2 e hez).trans hoe, hce⟩
  · refine wpAny_bind (D1.item k { s with heap := h₁ } _ _ hk1 s11 fun x h₂ tk₂ hx s12 hs₂ => wpAny_pure ?_)
    have hTO₂ : IsPair h₂ TO a b := (hs₂.2 TO D.TOi1).trans ((hs₁.2 TO D.TOz).trans hTO)
    refine wpAny_bind (wpAny_seqItems (s := { s with heap := h₂, toks := tk₂ }) hTO₂ rfl ?_)
    refine wpAny_bind (wpAny_updateSeq_pair (s := { s with heap := h₂, toks := tk₂ }) hTO₂ fun h₃ hTO₃ hs₃ => ?_)
    refine wpAny_bind (wpAny_letGo (wpAny_pure ?_))
    have s23 : S2 k h₃ := fr2 _ _ s21 fun c hc o e => (hs₃.2 c (ne hc D.a2.2.1)).trans ((hs₂.2 c (ne hc D.a2.2.2)).trans e)
    refine wpAny_bind (wpAny_bind (wpAny_onRaise ?_))
    show wpAny _ _ (Builtin.SmallTypes.nextOf (.ref i2) >>= _) _ _ _
    refine wpAny_bind (hend { s with heap := h₃, toks := tk₂ } _ _ s23 fun h₄ e hs₄ he => ?_)
    obtain ⟨oe, hoe, hce⟩ := he
    have hz₄ : IsZip h₄ z TI TO .ellipsis := hs₄ _ _ D.i2z.symm ((hs₃.2 z D.TOz.symm).trans ((hs₂.2 z D.i1z.symm).trans hz₁))
    have hez : e ≠ z := fun x => by subst x; rw [hz₄] at hoe; cases hoe; simp at hce
    refine wpAny_setField_rec (s := { s with heap := h₄, toks := tk₂ }) hz₄ (by simp) fun h₅ _ hs₅ => ?_
    exact fin h₅ e tk₂ (fun c o c1 c2 c3 c4 x => (hs₅.2 c c1).trans (hs₄ c o c4 ((hs₃.2 c c2).trans ((hs₂.2 c c3).trans ((hs₁.2 c c1).trans x))))) ⟨oe, (hs₅.2 e hez).trans hoe, hce⟩
end
def lIt (l : Addr) : Obj := { cls := .type "list_iterator", data := .fields #[.ref l, .int 0 0] }
abbrev zh2 (h : Heap) (o1 o2 : Obj) : Heap := (h.push o1).push o2
abbrev zh3 (h : Heap) (o1 o2 : Obj) : Heap := (zh2 h o1 o2).push { cls := .type "tuple", data := .seq #[.ref h.objs.size, .ref (h.push o1).objs.size] }
abbrev zh4 (h : Heap) (o1 o2 : Obj) : Heap := (zh3 h o1 o2).push { cls := .type "tuple", data := .seq #[.none, .none] }
abbrev zh5 (h : Heap) (o1 o2 : Obj) : Heap := (zh4 h o1 o2).push { cls := .type "zip", data := .fields #[.none, .bool false, .bool false, .ref (zh2 h o1 o2).objs.size, .ref (zh3 h o1 o2).objs.size] }
/-- the new objects, where they lie -/
theorem zh_at (h : Heap) (o1 o2 : Obj) (f1 : o1.isFreed = false) (f2 : o2.isFreed = false) : let n := h.objs.size
    (zh4 h o1 o2).objs.size = n + 4 ∧ IsZip (zh5 h o1 o2) (n + 4) (n + 2) (n + 3) .none ∧ IsPair (zh5 h o1 o2) (n + 2) (.ref n) (.ref (n + 1)) ∧ IsPair (zh5 h o1 o2) (n + 3) .none .none ∧ (zh5 h o1 o2).get? n = some o1 ∧ (zh5 h o1 o2).get? (n + 1) = some o2 ∧ ∀ c o, h.get? c = some o → (zh5 h o1 o2).get? c = some o := by
  intro n
  have z1 : (h.push o1).objs.size = n + 1 := Heap.size_push ..
  have z2 : (zh2 h o1 o2).objs.size = n + 2 := by rw [Heap.size_push, z1]
  have z3 : (zh3 h o1 o2).objs.size = n + 3 := by rw [Heap.size_push, z2]
  have z4 : (zh4 h o1 o2).objs.size = n + 4 := by rw [Heap.size_push, z3]
  have g5 : (zh5 h o1 o2).get? (zh4 h o1 o2).objs.size = some _ := Heap.get?_push_size _ rfl
  have g4 : (zh5 h o1 o2).get? (zh3 h o1 o2).objs.size = some _ := Heap.get?_push_of_some _ (Heap.get?_push_size _ rfl)
  have g3 : (zh5 h o1 o2).get? (zh2 h o1 o2).objs.size = some _ := Heap.get?_push_of_some _ (Heap.get?_push_of_some _ (Heap.get?_push_size _ rfl))
  have g2 : (zh5 h o1 o2).get? (h.push o1).objs.size = some o2 := Heap.get?_push_of_some _ (Heap.get?_push_of_some _ (Heap.get?_push_of_some _ (Heap.get?_push_size _ f2)))
  have g1 : (zh5 h o1 o2).get? h.objs.size = some o1 := Heap.get?_push_of_some _ (Heap.get?_push_of_some _ (Heap.get?_push_of_some _ (Heap.get?_push_of_some _ (Heap.get?_push_size _ f1))))
  rw [z2, z3, z4] at g5
  rw [z1, z2] at g3
  rw [z3] at g4
  rw [z1] at g2
  exact ⟨z4, g5, g3, g4, g1, g2, fun c o x => Heap.get?_push_of_some _ (Heap.get?_push_of_some _ (Heap.get?_push_of_some _ (Heap.get?_push_of_some _ (Heap.get?_push_of_some _ x))))⟩
end L3

namespace L3
open PySem PySem.Spec PyProof.Rows L2
theorem ltn {l n : Nat} (h : l < n) : n + 4 ≠ l ∧ n + 3 ≠ l ∧ n + 1 ≠ l ∧ n ≠ l := by omega
theorem nm2 {x a b : Nat} (h : x ≠ a) (g : x ≠ b) : x ∉ [a, b] := by simp [h, g]

section
variable {X : Cx} {tg : Expr}
end

section
variable {X : Cx} {tg : Expr}
end

section
variable {X : Cx}
end

section
variable {X : Cx}
end
end L3

/-! ### text * number -/
namespace L3
open PySem PySem.Spec PyProof.Rows L2
theorem rep_fold (a : Array Nat) : ∀ (n : Nat) (acc : Array Nat), (List.replicate n a).foldl (· ++ ·) acc = acc ++ (List.replicate n a.toList).flatten.toArray
  | 0, acc => by simp
  | n + 1, acc => by
    rw [List.replicate_succ, List.foldl_cons, rep_fold a n, List.replicate_succ, List.flatten_cons]
    apply Array.ext'
    simp
section
variable {X : Cx}
theorem op3_mulZ : OpR X (binaryOp .Mult) (lift2 X.K r3mulZ) := by
  intro pins s σ H x y v u Q I rx ry h
  obtain ⟨dx, dy, H3, Q3, hr, rdx, rdy, t, k⟩ := h
  cases rdx with
  | str z =>
    cases rdy with
    | int n =>
      obtain ⟨⟨h0, h1, hz⟩, q⟩ := t
      obtain ⟨t1, rfl⟩ := rx
      obtain ⟨t2, rfl⟩ := ry
      have fin : ∀ tk tk', EP X pins σ Q (.str (repZ z n.toNat) tk) { s with toks := tk' } := fun tk tk' => ⟨.str _, H, I.tok tk', ⟨tk, rfl⟩, k _ _ _ _ TK.refl hr (.str _) q⟩
      have hml : z.length * n.toNat ≤ 1000 * 1000 := Nat.mul_le_mul hz (by omega)
      refine PySem.P.mul_str (by
        have h2 : ¬ n < -(2 ^ 63 : Int) := by omega
        have h3 : ¬ n ≥ 2 ^ 63 := by omega
        rw [decide_eq_false h2, decide_eq_false h3]; rfl) ?_ ?_ ?_
      · intro hn _ hgt
        have : (1000 : Int) ≤ (2 ^ 63 - 1) / n := by
          refine Int.le_ediv_of_mul_le (by omega) ?_
          have : (1000 : Int) * n ≤ 1000 * 1000 := Int.mul_le_mul_of_nonneg_left h1 (by decide)
          omega
        omega
      · intro _ _
        exact decide_eq_false (by rw [sizeLine_n]; omega)
      · split
        · have e : n = 0 := by omega
          subst e
          exact ⟨by decide, fin _ _⟩
        · split
          · rename_i hc
            have e : repZ z n.toNat = z := by
              unfold repZ
              rcases Bool.or_eq_true _ _ |>.mp hc with q | q
              · have : n = 1 := by simpa using q
                subst this
                show (⟨(List.replicate 1 z.cps.toList).flatten.toArray⟩ : Str) = z
                simp
              · have q0 : z.length = 0 := by simpa using q
                have hn : z.cps = #[] := Array.eq_empty_of_size_eq_zero q0
                rw [hn]
                have : (List.replicate n.toNat (#[] : Array Nat).toList).flatten = [] := by simp
                rw [this]
                cases z; simp only at hn; rw [hn]
            have f := fin t1 s.toks
            rw [e] at f
            exact f
          · have e : (⟨(List.replicate n.toNat z.cps).foldl (· ++ ·) #[]⟩ : Str) = repZ z n.toNat := by
              unfold repZ
              rw [rep_fold]
              congr 1
              apply Array.ext'
              simp
            rw [e]
            refine ⟨?_, fin _ _⟩
            show ((List.replicate n.toNat z.cps.toList).flatten.toArray).size ≤ sizeLine
            rw [List.size_toArray, List.length_flatten, List.map_replicate, List.sum_replicate_nat, Array.length_toList, sizeLine_n]
            have : n.toNat * z.cps.size ≤ 1000 * 1000 := Nat.mul_le_mul (by omega) hz
            omega
    | _ => exact t.elim
  | _ => exact t.elim
end
end L3

namespace L3
open PySem PySem.Spec PyProof.Rows L2
/-! ### pure parts: instances -/
def putF3 (f : Str) (y : D) : List (Str × D) → List (Str × D)
  | [] => [(f, y)]
  | (g, x) :: r => if g = f then (g, y) :: r else (g, x) :: putF3 f y r
def r3fld (cs : List Str) (f : Str) (x : D) (H : Hp3) (Q : VK3) : Prop := match x with
  | .ref a => (match H a with
    | some (.ins c fs) => c ∈ cs ∧ (match fs.lookup f with
      | some d => Q d H
      | none => False)
    | _ => False)
  | _ => False
def fd3 (cs : List Str) (f : Str) (ta : TE3) : TE3 := fun σ H Q => ta σ H fun x H1 => r3fld cs f x H1 Q
def r3sf (cs : List Str) (f : Str) (y x : D) (H : Hp3) (R : Hp3 → Prop) : Prop := match x with
  | .ref a => (match H a with
    | some (.ins c fs) => (c ∈ cs ∧ fs.length < 1000) ∧ R (upd3 H a (.ins c (putF3 f y fs)))
    | _ => False)
  | _ => False
def sf3 (cs : List Str) (f : Str) (ta tv : TE3) : TS3 := fun D σ H => tv σ H fun y H1 => ta σ H1 fun x H2 => r3sf cs f y x H2 (D.nx σ)
def r3meth (ms : List (Str × Sp3)) (m : Str) (x : D) (H : Hp3) (R : Sp3 → Prop) : Prop := match x with
  | .ref a => (match H a with
    | some (.ins c fs) => fs.lookup m = none ∧ (match ms.lookup c with
      | some sp => R sp
      | none => False)
    | _ => False)
  | _ => False
def me3 (ms : List (Str × Sp3)) (m : Str) (ta : TE3) (t : TA3) : TE3 := fun σ H Q => ta σ H fun x H1 => r3meth ms m x H1 fun sp => t σ H1 fun ds H2 => sp (x :: ds) H2 Q
def mk3 (c : Str) (sp : Sp3) (t : TA3) : TE3 := fun σ H Q => t σ H fun ds H1 => ∀ x, H1 x = none → sp (.ref x :: ds) (upd3 H1 x (.ins c [])) fun v H2 => v = .non ∧ Q (.ref x) H2
section
variable {H : Hp3} {Q : VK3} {σ : St3} {a : Addr} {c f m : Str} {cs : List Str} {fs : List (Str × D)} {d y : D} {ta tv : TE3} {t : TA3} {sp : Sp3} {ms : List (Str × Sp3)}
theorem g_fd (h : ta σ H fun x H1 => r3fld cs f x H1 Q) : fd3 cs f ta σ H Q := h
theorem g_fld (h : H a = some (.ins c fs)) (hc : c ∈ cs) (hl : fs.lookup f = some d) (q : Q d H) : r3fld cs f (.ref a) H Q := by
  simp only [r3fld, h, hl]; exact ⟨hc, q⟩
theorem g_sfa {E : Ends3} (h : tv σ H fun y H1 => ta σ H1 fun x H2 => r3sf cs f y x H2 (E.nx σ)) : sf3 cs f ta tv E σ H := h
theorem g_sf {R : Hp3 → Prop} (h : H a = some (.ins c fs)) (hc : c ∈ cs) (hl : fs.length < 1000) (q : R (upd3 H a (.ins c (putF3 f y fs)))) : r3sf cs f y (.ref a) H R := by
  simp only [r3sf, h]; exact ⟨⟨hc, hl⟩, q⟩
theorem g_me (h : ta σ H fun x H1 => r3meth ms m x H1 fun sp => t σ H1 fun ds H2 => sp (x :: ds) H2 Q) : me3 ms m ta t σ H Q := h
theorem g_meth {R : Sp3 → Prop} (h : H a = some (.ins c fs)) (hl : fs.lookup m = none) (hs : ms.lookup c = some sp) (q : R sp) : r3meth ms m (.ref a) H R := by
  simp only [r3meth, h, hs]; exact ⟨hl, q⟩
theorem g_mk (h : t σ H fun ds H1 => ∀ x, H1 x = none → sp (.ref x :: ds) (upd3 H1 x (.ins c [])) fun v H2 => v = .non ∧ Q (.ref x) H2) : mk3 c sp t σ H Q := h
end
/-! enumerate(list) -/
def enk (x : D) (H : Hp3) (R : List D → (Hp3 → Prop) → Hp3 → Prop) : Prop := match x with
  | .ref a => (match H a with
    | some (.lst ds) => R (zipD (rng 0 ds.length) ds) (fun H' => H' a = some (.lst ds)) H
    | _ => False)
  | _ => False
def ien (te : TE3) : TI3 := fun σ H R => te σ H fun x H1 => enk x H1 R
theorem g_ien {te : TE3} {σ : St3} {H : Hp3} {R : List D → (Hp3 → Prop) → Hp3 → Prop} (h : te σ H fun x H1 => enk x H1 R) : ien te σ H R := h
theorem g_enk {H : Hp3} {a : Addr} {ds : List D} {R : List D → (Hp3 → Prop) → Hp3 → Prop} (h : H a = some (.lst ds)) (q : R (zipD (rng 0 ds.length) ds) (fun H' => H' a = some (.lst ds)) H) : enk (.ref a) H R := by
  simp only [enk, h]; exact q
theorem en_get {ds : List D} {i : Nat} {d : D} (h : (zipD (rng 0 ds.length) ds)[i]? = some d) : ∃ x, ds[i]? = some x ∧ d = .tup [.int i, x] := by
  unfold zipD at h
  rw [List.getElem?_zipWith] at h
  cases hx : ds[i]? with
  | none => rw [hx] at h; cases hr : (rng 0 ds.length)[i]? <;> rw [hr] at h <;> cases h
  | some x =>
    have hi := (List.getElem?_eq_some_iff.mp hx).1
    rw [hx, rng_get hi] at h
    refine ⟨x, rfl, ?_⟩
    simp only [Int.zero_add] at h
    exact (Option.some.inj h).symm
theorem en_len (ds : List D) : (zipD (rng 0 ds.length) ds).length = ds.length := by unfold zipD; rw [List.length_zipWith, rng_len, Nat.min_self]
/-! int(bool) -/
def r3int : List D → Hp3 → VK3 → Prop := fun ds H Q => match ds with
  | [.bl b] => Q (.int (if b then 1 else 0)) H
  | [.int i] => Q (.int i) H
  | _ => False
theorem g_intB {b : Bool} {H : Hp3} {Q : VK3} (q : Q (.int (if b then 1 else 0)) H) : r3int [.bl b] H Q := q
/-! exceptions, by their class's name -/
abbrev EK3 := Str → Hp3 → Prop
abbrev SpE := List D → Hp3 → VK3 → EK3 → Prop
def cbE (sp : SpE) (t : TA3) : EK3 → TE3 := fun E σ H Q => t σ H fun ds H1 => sp ds H1 Q E
def rz3 (E : EK3) (c : Str) (te : TE3) : TS3 := fun _ σ H => te σ H fun _ H1 => ∃ H2, Sub3 H2 H1 ∧ E c H2
def tr3 (t : EK3 → TE3) (cs : List Str) (th : TS3) : TS3 := fun D σ H => t (fun c H1 => c ∈ cs ∧ th D σ H1) σ H fun _ H1 => D.nx σ H1
section
variable {H : Hp3} {Q : VK3} {σ : St3} {t : TA3} {sp : SpE} {E : EK3} {c : Str} {te : TE3}
theorem g_cbE (h : t σ H fun ds H1 => sp ds H1 Q E) : cbE sp t E σ H Q := h
theorem g_rz {D : Ends3} (h : te σ H fun _ H1 => ∃ H2, Sub3 H2 H1 ∧ E c H2) : rz3 E c te D σ H := h
theorem g_try {D : Ends3} {t : EK3 → TE3} {cs : List Str} {th : TS3} (h : t (fun c H1 => c ∈ cs ∧ th D σ H1) σ H fun _ H1 => D.nx σ H1) : tr3 t cs th D σ H := h
end
/-! isinstance of an exception: by a table of classes; except .. as .. -/
def isxk (tbl : List (Str × Bool)) (x : D) (H : Hp3) (Q : VK3) : Prop := match x with
  | .ref a => (match H a with
    | some (.exc c) => (match tbl.lookup c with
      | some b => Q (.bl b) H
      | none => False)
    | _ => False)
  | _ => False
def isx3 (tbl : List (Str × Bool)) (ta : TE3) : TE3 := fun σ H Q => ta σ H fun x H1 => isxk tbl x H1 Q
def sxE (t : EK3 → TE3) : EK3 → TS3 := fun E D σ H => t E σ H fun _ H1 => D.nx σ H1
def sxS (i : Nat) (t : EK3 → TE3) : EK3 → TS3 := fun E D σ H => t E σ H fun v H1 => D.nx (σ.set i (some v)) H1
def gone (i : Nat) (D : Ends3) : Ends3 := { nx := fun σ' H' => D.nx (σ'.set i none) H', rt := D.rt, bk := fun σ' H' => D.bk (σ'.set i none) H', ct := fun σ' H' => D.ct (σ'.set i none) H' }
def trA3 (t : EK3 → TS3) (cs : List Str) (i : Nat) (th : TS3) : TS3 := fun D σ H => t (fun c H1 => c ∈ cs ∧ ∀ a, H1 a = none → th (gone i D) (σ.set i (some (.ref a))) (upd3 H1 a (.exc c))) D σ H
section
variable {H : Hp3} {Q : VK3} {σ : St3} {a : Addr} {c : Str} {b : Bool} {tbl : List (Str × Bool)} {ta : TE3}
theorem g_isx3 (h : ta σ H fun x H1 => isxk tbl x H1 Q) : isx3 tbl ta σ H Q := h
theorem g_isxk (h : H a = some (.exc c)) (hl : tbl.lookup c = some b) (q : Q (.bl b) H) : isxk tbl (.ref a) H Q := by
  simp only [isxk, h, hl]; exact q
theorem g_trA {D : Ends3} {t : EK3 → TS3} {cs : List Str} {i : Nat} {th : TS3} (h : t (fun c H1 => c ∈ cs ∧ ∀ a, H1 a = none → th (gone i D) (σ.set i (some (.ref a))) (upd3 H1 a (.exc c))) D σ H) : trA3 t cs i th D σ H := h
theorem g_gone {D : Ends3} {i : Nat} (h : D.nx (σ.set i none) H) : (gone i D).nx σ H := h
theorem g_goneR {E : Ends3} {i : Nat} {d : D} (h : E.rt d H) : (gone i E).rt d H := h
theorem g_sxE {D : Ends3} {E : EK3} {t : EK3 → TE3} (h : t E σ H fun _ H1 => D.nx σ H1) : sxE t E D σ H := h
theorem g_sxS {D : Ends3} {E : EK3} {i : Nat} {t : EK3 → TE3} (h : t E σ H fun v H1 => D.nx (σ.set i (some v)) H1) : sxS i t E D σ H := h
end
end L3

namespace L3
open PySem PySem.Spec PyProof.Rows L2
/-! ### instances of the text's classes: fields, methods, making -/
abbrev FsR (K : PySem.W.Frag) (H : Hp) (fs : List (Str × D)) (xs : List (Str × V)) : Prop := Paired (fun (p : Str × D) (q : Str × V) => p.1 = q.1 ∧ Rep K H p.2 q.2) fs xs
section
variable {K : PySem.W.Frag} {H : Hp}
theorem FsR.put {f : Str} {y : D} {v : V} (r : Rep K H y v) : ∀ {fs : List (Str × D)} {xs : List (Str × V)}, FsR K H fs xs → FsR K H (putF3 f y fs) (putF f v xs)
  | _, _, .nil => .cons ⟨rfl, r⟩ .nil
  | (g, d) :: fs, (g', x) :: xs, .cons ⟨e, q⟩ t => by
    have e' : g = g' := e
    subst e'
    unfold putF3 putF
    by_cases h : g = f
    · rw [if_pos h, if_pos h]; exact .cons ⟨rfl, r⟩ t
    · rw [if_neg h, if_neg h]; exact .cons ⟨rfl, q⟩ (FsR.put r t)
theorem FsR.len : ∀ {fs : List (Str × D)} {xs : List (Str × V)}, FsR K H fs xs → fs.length = xs.length
  | _, _, .nil => rfl
  | _ :: _, _ :: _, .cons _ t => by rw [List.length_cons, List.length_cons, FsR.len t]
theorem FsR.look {f : Str} {d : D} : ∀ {fs : List (Str × D)} {xs : List (Str × V)}, FsR K H fs xs → fs.lookup f = some d → ∃ v, xs.lookup f = some v ∧ Rep K H d v
  | _, _, .nil, e => by cases e
  | (g, d') :: fs, (g', x) :: xs, .cons ⟨e, q⟩ t, l => by
    have e' : g = g' := e
    subst e'
    cases hb : f == g with
    | true => simp only [List.lookup, hb] at l ⊢; cases l; exact ⟨x, rfl, q⟩
    | false => simp only [List.lookup, hb] at l ⊢; exact FsR.look t l
theorem FsR.no {f : Str} : ∀ {fs : List (Str × D)} {xs : List (Str × V)}, FsR K H fs xs → fs.lookup f = none → xs.lookup f = none
  | _, _, .nil, _ => rfl
  | (g, d') :: fs, (g', x) :: xs, .cons ⟨e, q⟩ t, l => by
    have e' : g = g' := e
    subst e'
    cases hb : f == g with
    | true => simp only [List.lookup, hb] at l; cases l
    | false => simp only [List.lookup, hb] at l ⊢; exact FsR.no t l
end
/-- the classes cs have no such name: it is a field -/
def FldOk (K : PySem.W.Frag) (cs : List Str) (f : Str) : Prop := ∀ c ∈ cs, ∃ C, PySem.W.nsIn K mainGlobals c = some (some (.ref C)) ∧ Cls K C ∧ NoAttr K C f
theorem FldOk.nil {K : PySem.W.Frag} {f : Str} : FldOk K [] f := fun _ h => absurd h (by simp)
theorem FldOk.cons {K : PySem.W.Frag} {f c : Str} {cs : List Str} {C : Addr} (h1 : PySem.W.nsIn K mainGlobals c = some (some (.ref C))) (h2 : Cls K C) (h3 : NoAttr K C f) (r : FldOk K cs f) : FldOk K (c :: cs) f := fun d h => by
  rcases List.mem_cons.mp h with rfl | h
  · exact ⟨C, h1, h2, h3⟩
  · exact r d h
/-- c.m of the text -/
structure MthOk (P : Program) (w : World) (K : PySem.W.Frag) (mg : Str → Option Value) (base : Heap) (k : Nat) (c m : Str) (ps : List Str) (sp : Sp3) : Prop where
  ex : ∃ C f fd, PySem.W.nsIn K mainGlobals c = some (some (.ref C)) ∧ Cls K C ∧ Meth K C m f ∧ FnOk P w K mg base CX0 k f fd ps (liftF K sp) ∧ Binds K fd ps []
/-- c(..) -/
structure MkOk (P : Program) (w : World) (K : PySem.W.Frag) (mg : Str → Option Value) (base : Heap) (k : Nat) (c : Str) (ps : List Str) (sp : Sp3) : Prop where
  ex : ∃ C f fd, PySem.W.nsIn K mainGlobals c = some (some (.ref C)) ∧ mg c = some (.ref C) ∧ Mk K C f ∧ FnOk P w K mg base CX0 k f fd ps (liftF K sp) ∧ Binds K fd ps []
section
variable {X : Cx} {e o value : Expr} {es : List Expr} {ta tv : TE3} {t : TA3} {cs : List Str} {f m c : Str} {k : Nat} {pos pos' p apos : Pos} {ps : List Str} {sp : Sp3}
/-- every class of the table has the method -/
def MsOk (P : Program) (w : World) (K : PySem.W.Frag) (mg : Str → Option Value) (base : Heap) (k : Nat) (m : Str) (ps : List Str) (ms : List (Str × Sp3)) : Prop := ∀ c sp, ms.lookup c = some sp → MthOk P w K mg base k c m ps sp
theorem MsOk.nil {P : Program} {w : World} {K : PySem.W.Frag} {mg : Str → Option Value} {base : Heap} : MsOk P w K mg base k m ps [] := fun c sp h => by cases h
theorem MsOk.cons {P : Program} {w : World} {K : PySem.W.Frag} {mg : Str → Option Value} {base : Heap} {k' : Nat} {ms : List (Str × Sp3)} (h : MthOk P w K mg base k' c m ps sp) (hk : k' ≤ k) (r : MsOk P w K mg base k m ps ms) : MsOk P w K mg base k m ps ((c, sp) :: ms) := fun d sp' hd => by
  cases hb : d == c with
  | true =>
    simp only [List.lookup, hb] at hd
    cases hd
    obtain rfl : d = c := beq_iff_eq.mp hb
    obtain ⟨C, f, fd, h1, h2, h3, h4, h5⟩ := h.ex
    exact ⟨C, f, fd, h1, h2, h3, h4.mono hk, h5⟩
  | false => simp only [List.lookup, hb] at hd; exact r d sp' hd
end
end L3

namespace L3
open PySem PySem.Spec PyProof.Rows L2
/-! ### exceptions of the text's own classes -/
/-- an exception that flies: its record at a, its traceback's at T -/
def XAt (h : Heap) (a : Addr) (C : Value) (T : Addr) : Prop :=
  ∃ oe vs oT ts a0, h.get? a = some oe ∧ (oe.cls = C ∧ vs[0]? = some a0) ∧ oe.data = .fields vs ∧ vs[1]? = some (.ref T) ∧ T ≠ a ∧ h.get? T = some oT ∧ oT.data = .fields ts ∧ ts[3]? = some .none
/-- what lies behind a call that an exception has left -/
def CXE (P : Program) (w : World) : CXT := fun outer H s E e s' => ∃ a T C H', e = .ref a ∧ s'.os = s.os ∧ AllBare s'.gens ∧ Un (frs outer) [] H H' s.heap s'.heap ∧ HOk P w H' s'.heap ∧
  s.heap.get? a = none ∧ s.heap.get? T = none ∧ H' a = none ∧ H' T = none ∧ XAt s'.heap a (.ref C) T ∧ E (.ref C) none H'
section
variable {M : Model} {A : Around} {E : Value → Shared → Prop} {s : Shared} {env : Env} {outer : List Env} {L a T t : Addr} {C : Value} {base : Heap} {Q : Unit → Shared → Prop}
end
section
variable {P : Program} {w : World} {K : PySem.W.Frag} {mg : Str → Option Value} {base : Heap} {N : List Str} {qual : Str} {scope : Scope} {f : Addr} {cd : Value} {A : Around} {outer : List Env} {s0 : Shared} {H0 : Hp} {E : XK}
end
end L3

namespace L3
open PySem PySem.Spec PyProof.Rows L2
section
variable {M : Model} {A : Around} {E : Value → Shared → Prop} {s : Shared} {env : Env} {outer : List Env} {L a T t : Addr} {C : Value} {base : Heap} {Q : Unit → Shared → Prop}
end
/-! ### expressions that an exception may leave -/
def KX (K : PySem.W.Frag) (H : Hp) (E3 : EK3) (E : XK) : Prop := ∀ c C H3' H', TK H H' → HR K H3' H' → PySem.W.nsIn K mainGlobals c = some (some (.ref C)) → E3 c H3' → E (.ref C) none H'
theorem KX.mono {K : PySem.W.Frag} {H H1 : Hp} {E3 : EK3} {E : XK} (k : KX K H E3 E) (t : TK H H1) : KX K H1 E3 E := fun c C H3 H' t' => k c C H3 H' (t.trans t')
def liftFE (K : PySem.W.Frag) (sp : SpE) : Sp := fun vs H Q E => ∃ ds H3 Q3 E3, HR K H3 H ∧ RepL K H ds vs ∧ sp ds H3 Q3 E3 ∧ KE K H Q3 Q ∧ KX K H E3 E
structure FnE (P : Program) (w : World) (K : PySem.W.Frag) (mg : Str → Option Value) (base : Heap) (k : Nat) (x : Str) (ps : List Str) (sp : SpE) : Prop where
  ex : ∃ f fd, FnOk P w K mg base (CXE P w) k f fd ps (liftFE K sp) ∧ mg x = some (.ref f) ∧ PySem.W.keepIn K (.ref f) = true ∧ Binds K fd ps []
section
variable {X : Cx} {k : Nat} {x c : Str} {f : Addr} {fd : FuncData} {ps : List Str} {sp : SpE} {p pos : Pos} {e : Expr} {es : List Expr} {t : TA3}
end
/-! ### raise -/
section
variable {X : Cx} {c : Str} {e : Expr} {te : TE3} {np cpos pos : Pos} {E : XK} {E3 : EK3}
end
end L3

namespace L3
open PySem PySem.Spec PyProof.Rows L2
section
variable {X : Cx} {st : Stmt} {sts : List Stmt} {e : Expr} {t : TS3} {te : TE3} {tt : TT3}
end
/-! ### except -/
end L3
namespace L3
open PySem PySem.Spec PyProof.Rows L2
section
variable {X : Cx} {A' : Around} {pins : List (Addr × Obj)} {σ : St} {H : Hp} {s : Shared}
end
end L3

/-! ### enumerate(list), int(bool) -/
namespace L3
open PySem PySem.Spec PyProof.Rows L2
/-- the list's items, each with its place -/
def Ite (K : PySem.W.Frag) (a : Addr) : It :=
  ⟨fun i H => ∃ xs x, SqL K H a xs ∧ xs[i]? = some x,
   fun i H v H' => ∃ T x, v = .ref T ∧ H T = none ∧ H' = upd H T (.tup [.int i, x]) ∧ ∀ xs, SqL K H a xs → xs[i]? = some x,
   fun i H => ∃ xs, SqL K H a xs ∧ xs.length ≤ i⟩
theorem turn_enum {P : Program} {w : World} {K : PySem.W.Frag} {elts : List Expr} {kt : Nat} {pt : Pos} (e it a : Addr) (hne : e ≠ it) :
    Turn P w K (.Tuple elts kt pt) (Ite K a) [e, it] e (fun i h => (∃ old, IsEnum h e it i old) ∧ h.IsListIter it a i) where
  mem := by simp
  obj := by
    rintro i h ⟨⟨old, h1⟩, ⟨o4, h4, c4, d4⟩⟩ c hc
    simp only [List.mem_cons, List.not_mem_nil, or_false] at hc
    rcases hc with rfl | rfl
    · exact ⟨_, h1, fun v z => nomatch z⟩
    · exact ⟨_, h4, fun v z => by rw [d4] at z; cases z⟩
  keep := by
    rintro i h h' ⟨⟨old, h1⟩, h4⟩ k
    exact ⟨⟨old, k e (by simp) _ h1⟩, h4.at fun o q => k it (by simp) o q⟩
  item := by
    intro X hP hw hK hc i pins s σ H E I hf st hg
    subst hP hw hK
    obtain ⟨xs, x, hq, hx⟩ := hg
    obtain ⟨⟨old, h1⟩, h4⟩ := st
    obtain ⟨its, rv, p, hz⟩ := I.list hq
    obtain ⟨u, hu, ru⟩ := rv.get hx
    have hT : H s.heap.objs.size = none := I.hok.fresh (Nat.le_refl _)
    refine wpAny_pyNext_enum_item h1 h4 p.isList (x := u) (by simpa using hu) hne fun h' a1 a2 a3 a4 a5 => ?_
    refine ⟨_, rfl, ?_⟩
    refine wpAny_letOwnedTupleGo_enum (s := { s with heap := h', toks := s.toks + 1 }) a1 fun h'' b1 b2 => ?_
    have lt : ∀ {c o}, s.heap.get? c = some o → s.heap.objs.size ≠ c := fun q => Nat.ne_of_gt (Heap.lt_size q)
    have new : h''.get? s.heap.objs.size = some { cls := .type "tuple", data := .seq #[.int i s.toks, u] } := (b2.2 _ (lt h1)).trans a3
    have I1 : L2.Inv X pins σ (upd H s.heap.objs.size (.tup [.int i, x])) { s with heap := h'', toks := s.toks + 1 } := by
      refine turnedNew (ch := [e, it]) I (fun c o hcn q => ?_) hf (Nat.le_refl _) ⟨?_, [.int i s.toks, u], .cons ⟨_, rfl⟩ (.cons ru .nil), ⟨_, new, rfl, _, rfl⟩⟩
      · have n1 : c ≠ e := fun w => hcn (by simp [w])
        exact (b2.2 c n1).trans (a5 c o n1 (fun w => hcn (by simp [w])) q)
      · show 2 ≤ sizeLine; decide
    refine ⟨.ref s.heap.objs.size, _, I1, rfl, ⟨_, x, rfl, hT, rfl, fun xs' q1 => by rw [I.list_inj q1 hq]; exact hx⟩, ⟨⟨u, b1⟩, a2.at fun o q => (b2.2 it (Ne.symm hne)).trans q⟩, fun c hcm => ?_⟩
    have hcn : H c = none := (hf c hcm).1
    have : c ≠ s.heap.objs.size := by
      obtain ⟨o, q, _⟩ : ∃ o, s.heap.get? c = some o ∧ True := by
        simp only [List.mem_cons, List.not_mem_nil, or_false] at hcm
        rcases hcm with rfl | rfl
        · exact ⟨_, h1, trivial⟩
        · obtain ⟨o, q, _⟩ := h4; exact ⟨o, q, trivial⟩
      exact (lt q).symm
    rw [upd_ne this]; exact hcn
  done := by
    intro X hP hw hK hc i pins s σ H E I hf st hg
    subst hP hw hK
    obtain ⟨xs, hq, hx⟩ := hg
    obtain ⟨⟨old, h1⟩, h4⟩ := st
    obtain ⟨its, rv, p, hz⟩ := I.list hq
    have hl := rv.length
    refine wpAny_pyNext_enum_end (I.ok.hd hc) h1 h4 p.isList (by rw [List.getElem?_toArray]; exact List.getElem?_eq_none (by omega)) fun h' k => ⟨rfl, ?_⟩
    exact turnedL (t' := s.toks) (ch := [e, it]) I (fun c o hcn q => k c o (fun w => hcn (by simp [w])) q) hf
  self := fun A i s Q E st h => by
    obtain ⟨old, h1⟩ := st.1
    exact wpAny_pyIter_enum h1 h
section
variable {X : Cx} {tg : Expr}
theorem boot_enum : bootBuiltins "enumerate" = some (.type "enumerate") := by rfl
def jEnum (K : PySem.W.Frag) (ta : TA) : TI := fun σ H R => ta σ H fun vs H1 => ∃ a, vs = [.ref a] ∧ (∃ xs, SqL K H1 a xs) ∧ R (Ite K a) H1
theorem pj_enum {a : Expr} {ta : TA} {p pos pt : Pos} {elts : List Expr} {kt : Nat} (hg : Gl X "enumerate") (hm : X.mg "enumerate" = none) (ha : PA X [a] ta) (hs : starEach [a] X.env = [(false, eval a X.env)] := by rfl) :
    PI X (.Tuple elts kt pt) (.Call (.Name "enumerate" p) [a] [] pos) (jEnum X.K ta) := by
  intro pins s σ H R I h
  refine Call_ (ld_blt I hg hm boot_enum (PyProof.Rows.callWith_type1 (thn (ha pos pins s σ H _ I h) fun us s1 ⟨vs, H1, I1, r1, l1, e, ⟨xs, hq⟩, q⟩ => ?_) (by rw [hs]; rfl) (by rfl)))
  subst e
  obtain ⟨u, rfl, e1⟩ := vals1 r1
  cases e1
  obtain ⟨its, rv, pl, hz⟩ := I1.list hq
  refine call_enumerate_list pl.isList fun h' he hit hsz hk => ?_
  refine wpAny_pyIter_enum (s := { s1 with heap := h' }) he ?_
  have I2 : L2.Inv X pins σ H1 { s1 with heap := h', toks := s1.toks } := I1.kept (t' := s1.toks) hk
  refine ⟨_, _, _, _, H1, rfl, I2, turn_enum _ _ l1 (Nat.ne_of_gt (Nat.lt_succ_self _)), ⟨⟨_, he⟩, hit⟩, fun b hb => ?_, q⟩
  simp only [List.mem_cons, List.not_mem_nil, or_false] at hb
  have hge : s1.heap.objs.size ≤ b := by rcases hb with rfl | rfl <;> omega
  have fp := I1.fpOk (b := b) (H' := H1) hge (I1.hok.fresh hge)
  exact fp
theorem itOk_enum {K : PySem.W.Frag} {H : Hp} {a : Addr} {ds : List D} : ItOk K H (zipD (rng 0 ds.length) ds) (fun H' => H' a = some (.lst ds)) (Ite K a) := fun H3 H' _ hr hk => by
  obtain ⟨vs, ga, ra⟩ := hr a _ hk
  refine ⟨fun i hi => ?_, ?_⟩
  · rw [en_len] at hi
    have h1 : i < vs.length := by rw [← ra.length]; exact hi
    refine ⟨⟨vs, vs[i], SqL.of ga, by simp⟩, fun v H'' y => ?_⟩
    obtain ⟨T, x, rfl, hT, rfl, hx⟩ := y
    obtain ⟨d, hd, rd⟩ := ra.getV (hx vs (SqL.of ga))
    refine ⟨TK.fresh hT, hr.tup hT, .tup [.int i, d], ?_, .tup upd_same (.cons (.int i) (.cons (rd.mono (TK.fresh hT)) .nil))⟩
    unfold zipD
    rw [List.getElem?_zipWith, hd, rng_get hi]
    simp only [Int.zero_add]
  · rw [en_len]
    exact ⟨vs, SqL.of ga, by rw [ra.length]; exact Nat.le_refl _⟩
theorem i3_enum {a : Expr} {ta : TE3} {p pos pt : Pos} {elts : List Expr} {kt : Nat} (hm : X.mg "enumerate" = none) (ha : PE3 X a ta) (hg : Gl X "enumerate" := by rfl) (hs : starEach [a] X.env = [(false, eval a X.env)] := by rfl)
    (hs1 : starEach [a] X.env = (false, eval a X.env) :: starEach [] X.env := by rfl) : PI3 X (.Tuple elts kt pt) (.Call (.Name "enumerate" p) [a] [] pos) (ien ta) :=
  pi_imp (pj_enum hg hm (a3_cons ha a3_nil hs1) hs) fun _ _ _ ⟨σ3, H3, R3, sr, hr, t, k⟩ => by
    refine ⟨σ3, H3, fun ds H1 => (match ds with | [x] => enk x H1 R3 | _ => False), sr, hr, t, fun ds vs H3a Ha tka hra rs qa => ?_⟩
    cases rs with
    | nil => exact qa.elim
    | cons r1 r2 =>
      cases r2 with
      | cons _ _ => exact qa.elim
      | nil =>
        cases r1 with
        | ref x =>
          simp only [enk] at qa
          split at qa
          · rename_i ds hx
            obtain ⟨vs, ga, ra⟩ := hra x _ hx
            exact ⟨x, rfl, ⟨vs, SqL.of ga⟩, k _ _ _ _ _ tka hra itOk_enum qa⟩
          · exact qa.elim
        | _ => exact qa.elim
end
end L3

namespace L3
open PySem PySem.Spec PyProof.Rows L2 PySem.Calls Builtin Builtin.ObjectAttr Builtin.Getset_descriptor
/-! ### isinstance of an exception -/
/-- what is known of an exception's class C -/
structure XCls (K : PySem.W.Frag) (C : Addr) : Prop where
  ga : PySem.W.findIn K (.ref C) "__getattribute__" = some (some (.builtin "BaseException.__getattribute__"))
  gh : PySem.W.findIn K (.ref C) "__getattr__" = some none
  cl : PySem.W.findIn K (.ref C) "__class__" = some (some (.builtin "object.__class__"))
  gs : PySem.W.specialIn K (.builtin "object.__class__") "__get__" = some (some (.builtin "getset_descriptor.__get__"))
  tk : PySem.W.takesIn K (.builtin "object.__class__") = some true
  mo : PySem.W.mroIn K C (.type "object") = some true
  mb : PySem.W.mroIn K C (.type "BaseException") = some true
section
variable {prog : Program} {w : World} {A : Around} {E : Value → Shared → Prop} {s : Shared} {K : PySem.W.Frag} {a C : Addr}
end
end L3

namespace L3
open PySem PySem.Spec PyProof.Rows L2
section
variable {X : Cx} {e : Expr} {ta : TE3} {cx : Str} {tbl : List (Str × Bool)} {p np pos : Pos}
end
/-! ### statements that an exception may leave; except .. as .. -/
section
variable {X : Cx} {pins : List (Addr × Obj)} {σ : St} {H : Hp} {s : Shared}
end
section
variable {X : Cx} {e : Expr} {t : EK3 → TE3} {pos : Pos}
end
end L3

namespace L3
open PySem PySem.Spec PyProof.Rows L2
/-! ### pure parts: what a dict holds at a key; its length -/
def dgk (x y : D) (H : Hp3) (Q : VK3) : Prop := match x, y with
  | .ref a, .tup ds => (match keysOf ds, H a with
    | some k, some (.dic kvs) => (match dlook kvs k with
      | some d => Q d H
      | none => False)
    | _, _ => False)
  | _, _ => False
def dg3 (ta tb : TE3) : TE3 := fun σ H Q => ta σ H fun x H1 => tb σ H1 fun y H2 => dgk x y H2 Q
section
variable {H : Hp3} {Q : VK3} {σ : St3} {a : Addr} {p1 p2 : Int} {d : D} {kvs : List (Pt × D)} {ta tb : TE3}
theorem g_dg (h : ta σ H fun x H1 => tb σ H1 fun y H2 => dgk x y H2 Q) : dg3 ta tb σ H Q := h
end
/-! list(zip(tuple, list)); sorted(ints); slices of tuples -/
def lzk (x y : D) (H : Hp3) (Q : VK3) : Prop := match x, y with
  | .tup ds, .ref b => (match H b with
    | some (.lst es) => ds.length ≤ 1000 ∧ ∀ p, H p = none → Q (.ref p) (upd3 H p (.lst (zipD ds es)))
    | _ => False)
  | _, _ => False
def lz3 (ta tb : TE3) : TE3 := fun σ H Q => ta σ H fun x H1 => tb σ H1 fun y H2 => lzk x y H2 Q
def r3sortI : List D → Hp3 → VK3 → Prop := fun ds H Q => match ds with
  | [.ref a] => (match H a with
    | some (.lst xs) => (match intsOf xs with
      | some ns => ns.length < 64 ∧ ∀ (ms : List Int) (p : Addr), ms.Perm ns → ms.Pairwise (· ≤ ·) → H p = none → Q (.ref p) (upd3 H p (.lst (ms.map D.int)))
      | none => False)
    | _ => False)
  | _ => False
def r3slT : RSl := fun x lo hi H Q => match x with
  | .tup ds => ¬ (HT.sIx ds.length 0 lo = 0 ∧ HT.sIx ds.length ds.length hi = ds.length) ∧ Q (.tup (cut3 ds lo hi)) H
  | _ => False
section
variable {H : Hp3} {Q : VK3} {σ : St3} {a : Addr} {ds es : List D} {ta tb : TE3}
theorem g_lz (h : ta σ H fun x H1 => tb σ H1 fun y H2 => lzk x y H2 Q) : lz3 ta tb σ H Q := h
theorem g_lzk (h : H a = some (.lst es)) (hl : ds.length ≤ 1000) (q : ∀ p, H p = none → Q (.ref p) (upd3 H p (.lst (zipD ds es)))) : lzk (.tup ds) (.ref a) H Q := by
  simp only [lzk, h]; exact ⟨hl, q⟩
theorem g_sortI {ns : List Int} (h : H a = some (.lst (ns.map D.int))) (hl : ns.length < 64) (q : ∀ (ms : List Int) (p : Addr), ms.Perm ns → ms.Pairwise (· ≤ ·) → H p = none → Q (.ref p) (upd3 H p (.lst (ms.map D.int)))) : r3sortI [.ref a] H Q := by
  simp only [r3sortI, h, intsOf_map]; exact ⟨hl, q⟩
theorem g_slT {lo hi : Option Int} (hw : ¬ (HT.sIx ds.length 0 lo = 0 ∧ HT.sIx ds.length ds.length hi = ds.length)) (q : Q (.tup (cut3 ds lo hi)) H) : r3slT (.tup ds) lo hi H Q := ⟨hw, q⟩
end
end L3

namespace L3
open PySem PySem.Spec PyProof.Rows L2
section
variable {X : Cx} {o i : Expr} {ta tb : TE3} {pos : Pos}
end
end L3

namespace L3
open PySem PySem.Spec PyProof.Rows L2
/-! ### list(zip(tuple, list)) -/
theorem wpAny_alive {α : Type} {M : Model} {A : Around} {E : Value → Shared → Prop} {s : Shared} {a : Addr} {k : Option Obj → Sem α} {Q : α → Shared → Prop} (h : wpAny M A (k (s.heap.get? a)) Q E s) : wpAny M A (Sem.loadIfAlive a k) Q E s := fun Γ p hΓ => by
  have := h Γ p hΓ
  rw [Sem.wp_loadIfAlive]; exact this
section
variable {prog : Program} {w : World} {A : Around} {E : Value → Shared → Prop} {s : Shared}
theorem nextOf_tup {jt tt : Addr} {i : Nat} {its : Array Value} {x : Value} {Q : Value → Shared → Prop} (hj : s.heap.IsTupleIter jt tt i) (ht : s.heap.IsTuple tt its) (hx : its[i]? = some x)
    (hQ : ∀ h', h'.IsTupleIter jt tt (i + 1) → Heap.SameBut jt s.heap h' → Q x { s with heap := h' }) : wpAny (model prog w) A (Builtin.SmallTypes.nextOf (.ref jt)) Q E s := by
  obtain ⟨o, ho, hc, hd⟩ := id hj
  obtain ⟨ol, hol, _, nl, hdl⟩ := ht
  unfold Builtin.SmallTypes.nextOf
  refine wpAny_bind (wpAny_callSpecial?_slot (name := Str.ofString "__next__") hj.typeIs F.slot_tuple_iterator_next (wpAny_call_entry F.slot_tuple_iterator_next hj.typeIs F.entry_tuple_iterator_next ?_ (F.args_tuple_iterator_next_1 _)))
  show wpAny _ _ (field (.ref jt) 0 >>= _) _ _ s
  refine wpAny_bind (wpAny_field ho hd (x := .ref tt) rfl ?_)
  show wpAny _ _ (if (Value.ref tt == Value.none) = true then _ else _) _ _ s
  rw [if_neg (show ¬ ((Value.ref tt == Value.none) = true) from Bool.false_ne_true)]
  show wpAny _ _ (field (.ref jt) 1 >>= _) _ _ s
  refine wpAny_bind (wpAny_field ho hd (x := .int i 0) rfl ?_)
  show wpAny _ _ (seqItems? (.ref tt) >>= _) _ _ s
  refine wpAny_bind (wpAny_seqItems hol hdl ?_)
  simp only [Int.toNat_natCast, hx]
  refine wpAny_bind (wpAny_setField ho hd (by simp) (wpAny_pure ⟨x, rfl, wpAny_pure (hQ _ ⟨_, Heap.get?_update_self _ ho (Obj.isFreed_of_fields (Obj.data_mapFields hd _)), (Obj.cls_mapFields ..).trans hc, by rw [Obj.data_mapFields hd]; simp [rawInt]⟩ (Heap.SameBut.update ..))⟩))
theorem nextOf_tup_end {jt tt : Addr} {i : Nat} {its : Array Value} {Q : Value → Shared → Prop} (hh : A.handled = none) (hj : s.heap.IsTupleIter jt tt i) (ht : s.heap.IsTuple tt its) (hx : its[i]? = none)
    (hE : ∀ h' e, Heap.ExtBut jt s.heap h' → (∃ o, h'.get? e = some o ∧ o.cls = .type "StopIteration") → E (.ref e) { s with heap := h' }) : wpAny (model prog w) A (Builtin.SmallTypes.nextOf (.ref jt)) Q E s := by
  obtain ⟨o, ho, hc, hd⟩ := id hj
  obtain ⟨ol, hol, _, nl, hdl⟩ := ht
  unfold Builtin.SmallTypes.nextOf
  refine wpAny_bind (wpAny_callSpecial?_slot (name := Str.ofString "__next__") hj.typeIs F.slot_tuple_iterator_next (wpAny_call_entry F.slot_tuple_iterator_next hj.typeIs F.entry_tuple_iterator_next ?_ (F.args_tuple_iterator_next_1 _)))
  show wpAny _ _ (field (.ref jt) 0 >>= _) _ _ s
  refine wpAny_bind (wpAny_field ho hd (x := .ref tt) rfl ?_)
  show wpAny _ _ (if (Value.ref tt == Value.none) = true then _ else _) _ _ s
  rw [if_neg (show ¬ ((Value.ref tt == Value.none) = true) from Bool.false_ne_true)]
  show wpAny _ _ (field (.ref jt) 1 >>= _) _ _ s
  refine wpAny_bind (wpAny_field ho hd (x := .int i 0) rfl ?_)
  show wpAny _ _ (seqItems? (.ref tt) >>= _) _ _ s
  refine wpAny_bind (wpAny_seqItems hol hdl ?_)
  simp only [Int.toNat_natCast, hx]
  refine wpAny_bind (wpAny_rule (wpAny_bind (wpAny_setField ho hd (by simp) ?_)))
  show wpAny _ _ (newExc (.type "StopIteration") [] >>= fun _ => _) _ _ _
  refine wpAny_bind ?_
  simp only [newExc, newTuple]
  refine wpAny_bind (wpAny_newObj_type ?_ (by size_fits))
  refine wpAny_bind (m := firstArgMember _ _) (wpAny_of_eq (a := Value.none) (by first | (simp only [firstArgMember]; rfl) | rfl) ?_)
  refine wpAny_newObj_type ?_ (by size_fits)
  simp only [raiseNew]
  refine wpAny_bind (wpAny_handled ?_)
  first | rw [hh] | rw [show A.in1.handled = none from hh]
  refine wpAny_bind (wpAny_pure (wpAny_throw ?_))
  exact hE _ _ (((Heap.SameBut.update ..).extBut.push _).push _) ⟨_, Heap.get?_push_size _ rfl, rfl⟩
theorem drawsT (hh : A.handled = none) (jt tt : Addr) (hne : tt ≠ jt) (its : Array Value) : Draws prog w A jt [jt, tt] its.size (fun i v => its[i]? = some v) (fun i h => h.IsTupleIter jt tt i ∧ h.IsTuple tt its) where
  live := fun _ _ st => let ⟨o, ho, _⟩ := st.1; ⟨o, ho⟩
  frame := fun _ _ _ st hk => ⟨st.1.at fun o e => hk jt (by simp) o e, st.2.at fun o e => hk tt (by simp) o e⟩
  item := fun i s Q E hi st hQ => nextOf_tup st.1 st.2 (x := its[i]) (by simp [hi]) fun h' hj' hs' => hQ _ h' s.toks (by simp [hi]) ⟨hj', st.2.extBut hs'.extBut hne⟩ hs'
  done := fun s Q E st hE => nextOf_tup_end hh st.1 st.2 (by simp) hE
/-- a zip whose last pair is still held -/
def ZipH (h : Heap) (z TI TO T0 : Addr) : Prop := ∃ b : Bool, h.get? z = some { cls := .type "zip", data := .fields #[rawInt T0, .bool b, .bool false, .ref TI, .ref TO] }
variable {z TI TO i1 i2 T0 : Addr} {f1 f2 : List Addr} {n1 n2 k : Nat} {P1 P2 : Nat → Value → Prop} {S1 S2 : Nat → Heap → Prop} {a b : Value}
theorem heldT (hz : ZipH s.heap z TI TO T0) {o0 : Obj} (h0 : s.heap.get? T0 = some o0) {Q : Bool → Shared → Prop}
    (h : ∀ h', ZipH h' z TI TO T0 → Heap.SameBut z s.heap h' → Q false { s with heap := h' }) : wpAny (model prog w) A (Builtin.SmallTypes.ownedTupleIsFree (.ref z)) Q E s := by
  obtain ⟨bb, hz⟩ := hz
  unfold Builtin.SmallTypes.ownedTupleIsFree
  refine wpAny_bind (wpAny_field hz rfl (x := rawInt T0) rfl ?_)
  unfold rawInt
  dsimp only
  refine wpAny_bind (wpAny_alive (wpAny_pure ?_))
  rw [Int.toNat_natCast, h0]
  simp only [Option.isNone_some, Bool.false_eq_true, if_false]
  refine wpAny_bind (wpAny_field hz rfl (x := .bool bb) rfl ?_)
  cases bb with
  | true =>
    rw [if_neg (by decide)]
    exact wpAny_pure (h s.heap ⟨true, hz⟩ (Heap.SameBut.refl _ _))
  | false =>
    rw [if_pos (by decide)]
    refine wpAny_bind (wpAny_setField_rec hz (by simp) fun h₁ hz₁ hs₁ => wpAny_pure (h h₁ ⟨true, ?_⟩ hs₁))
    exact hz₁
theorem zipN_item {Q : Option Value → Shared → Prop} (D : ZAp z TI TO i1 i2 f1 f2) (D1 : Draws prog w A.in1 i1 f1 n1 P1 S1) (D2 : Draws prog w A.in1 i2 f2 n2 P2 S2) (h1 : k < n1) (h2 : k < n2)
    (hz : ZipH s.heap z TI TO T0) {o0 : Obj} (h0 : s.heap.get? T0 = some o0) (hTI : IsPair s.heap TI (.ref i1) (.ref i2)) (st1 : S1 k s.heap) (st2 : S2 k s.heap)
    (hQ : ∀ h' tk x y, P1 k x → P2 k y → ZipH h' z TI TO T0 → S1 (k + 1) h' → S2 (k + 1) h' → IsPair h' s.heap.objs.size x y →
      (∀ c o, c ≠ z → c ≠ i1 → c ≠ i2 → s.heap.get? c = some o → h'.get? c = some o) → Q (some (.ref s.heap.objs.size)) { s with heap := h', toks := tk }) :
    wpAny (model prog w) A (pyNext (.ref z)) Q E s := by
  obtain ⟨bb, hzz⟩ := id hz
  have hT : s.TypeIs (.ref z) "zip" := ⟨_, hzz, rfl⟩
  unfold pyNext
  refine wpAny_bind (wpAny_attempt (wpAny_callSpecial?_slot (name := Str.ofString "__next__") hT F.slot_zip_next (wpAny_call_entry F.slot_zip_next hT F.entry_zip_next ?_ (F.args_zip_next_1 _))))
  show wpAny _ _ (field (.ref z) 2 >>= fun _ => _) _ _ _
  refine wpAny_bind (wpAny_field hzz rfl (x := .bool false) rfl ?_)
  show wpAny _ _ (field (.ref z) 3 >>= fun _ => _) _ _ _
  refine wpAny_bind (wpAny_field hzz rfl (x := .ref TI) rfl ?_)
  refine wpAny_bind (wpAny_seqItems hTI rfl ?_)
  show wpAny _ _ (Builtin.SmallTypes.ownedTupleIsFree (.ref z) >>= fun _ => _) _ _ _
  refine wpAny_bind (heldT hz h0 fun h₁ hz₁ hs₁ => ?_)
  simp only [Bool.false_eq_true, if_false]
  refine wpAny_bind ?_
  rw [← Array.forIn_toList]
  simp only [List.forIn_cons, List.forIn_nil]
  have ne : ∀ {c d : Addr} {f : List Addr}, c ∈ f → d ∉ f → c ≠ d := fun hc hd e => hd (e ▸ hc)
  have s11 : S1 k h₁ := D1.frame _ _ _ st1 fun c hc o e => (hs₁.2 c (ne hc D.a1.1)).trans e
  have s21 : S2 k h₁ := D2.frame _ _ _ st2 fun c hc o e => (hs₁.2 c (ne hc D.a2.1)).trans e
  refine wpAny_bind (wpAny_bind (wpAny_holding ?_))
  show wpAny _ _ (Builtin.SmallTypes.nextOf (.ref i1) >>= fun _ => _) _ _ _
  refine wpAny_bind (D1.item k { s with heap := h₁ } _ _ h1 s11 fun x h₂ tk₂ hx s12 hs₂ => wpAny_pure (wpAny_pure ?_))
  have s22 : S2 k h₂ := D2.frame _ _ _ s21 fun c hc o e => (hs₂.2 c (ne hc D.a2.2.2)).trans e
  refine wpAny_bind (wpAny_bind (wpAny_holding ?_))
  show wpAny _ _ (Builtin.SmallTypes.nextOf (.ref i2) >>= fun _ => _) _ _ _
  refine wpAny_bind (D2.item k { s with heap := h₂, toks := tk₂ } _ _ h2 s22 fun y h₃ tk₃ hy s23 hs₃ => wpAny_pure (wpAny_pure (wpAny_pure ?_)))
  have s13 : S1 (k + 1) h₃ := D1.frame _ _ _ s12 fun c hc o e => (hs₃.2 c (ne hc D.a1.2.2)).trans e
  refine wpAny_bind (wpAny_newTuple (wpAny_pure ⟨_, rfl, wpAny_pure ?_⟩) (by show 2 ≤ sizeLine; decide))
  have hsz : h₃.objs.size = s.heap.objs.size := by rw [hs₃.1, hs₂.1, hs₁.1]
  have up : ∀ c o, h₃.get? c = some o → (h₃.push { cls := .type "tuple", data := .seq #[x, y] }).get? c = some o := fun c o e => Heap.get?_push_of_some _ e
  have hn : IsPair (h₃.push { cls := .type "tuple", data := .seq #[x, y] }) h₃.objs.size x y := Heap.get?_push_size _ rfl
  rw [hsz] at hn
  obtain ⟨b1, hz1⟩ := hz₁
  have hz3 : ZipH (h₃.push { cls := .type "tuple", data := .seq #[x, y] }) z TI TO T0 := ⟨b1, up _ _ ((hs₃.2 z D.i2z.symm).trans ((hs₂.2 z D.i1z.symm).trans hz1))⟩
  show Q (some (.ref h₃.objs.size)) _
  rw [hsz]
  exact hQ _ tk₃ x y hx hy hz3 (D1.frame _ _ _ s13 fun c _ o e => up c o e) (D2.frame _ _ _ s23 fun c _ o e => up c o e) hn fun c o c1 c3 c4 e => up c o ((hs₃.2 c c4).trans ((hs₂.2 c c3).trans ((hs₁.2 c c1).trans e)))
theorem zipN_end {Q : Option Value → Shared → Prop} (D : ZAp z TI TO i1 i2 f1 f2) (fr1 : ∀ h h' : Heap, S1 k h → (∀ b ∈ f1, ∀ o, h.get? b = some o → h'.get? b = some o) → S1 k h') (fr2 : ∀ h h' : Heap, S2 k h → (∀ b ∈ f2, ∀ o, h.get? b = some o → h'.get? b = some o) → S2 k h')
    (hend : Endd prog w A.in1 i1 (S1 k) ∨ ((k < n1 ∧ Draws prog w A.in1 i1 f1 n1 P1 S1) ∧ Endd prog w A.in1 i2 (S2 k)))
    (hz : ZipH s.heap z TI TO T0) {o0 : Obj} (h0 : s.heap.get? T0 = some o0) (hTI : IsPair s.heap TI (.ref i1) (.ref i2)) (st1 : S1 k s.heap) (st2 : S2 k s.heap)
    (hQ : ∀ h' tk, (∀ c o, c ≠ z → c ≠ i1 → c ≠ i2 → s.heap.get? c = some o → h'.get? c = some o) → Q none { s with heap := h', toks := tk }) :
    wpAny (model prog w) A (pyNext (.ref z)) Q E s := by
  obtain ⟨bb, hzz⟩ := id hz
  have hT : s.TypeIs (.ref z) "zip" := ⟨_, hzz, rfl⟩
  unfold pyNext
  refine wpAny_bind (wpAny_attempt (wpAny_callSpecial?_slot (name := Str.ofString "__next__") hT F.slot_zip_next (wpAny_call_entry F.slot_zip_next hT F.entry_zip_next ?_ (F.args_zip_next_1 _))))
  have fin : ∀ h' e tk, (∀ c o, c ≠ z → c ≠ i1 → c ≠ i2 → s.heap.get? c = some o → h'.get? c = some o) → (∃ o, h'.get? e = some o ∧ o.cls = .type "StopIteration") →
      wpAny (model prog w) A (do let r ← isInstance (.ref e) (Value.type "StopIteration"); if r = true then pure none else throw (.ref e)) Q E { s with heap := h', toks := tk } := by
    rintro h' e tk hk ⟨o, ho, hc⟩
    exact wpAny_bind (wpAny_isInstance (T := "StopIteration") (b := true) ⟨o, ho, hc⟩ isSubtype_stop (wpAny_pure (hQ h' tk hk)))
  show wpAny _ _ (field (.ref z) 2 >>= fun _ => _) _ _ _
  refine wpAny_bind (wpAny_field hzz rfl (x := .bool false) rfl ?_)
  show wpAny _ _ (field (.ref z) 3 >>= fun _ => _) _ _ _
  refine wpAny_bind (wpAny_field hzz rfl (x := .ref TI) rfl ?_)
  refine wpAny_bind (wpAny_seqItems hTI rfl ?_)
  show wpAny _ _ (Builtin.SmallTypes.ownedTupleIsFree (.ref z) >>= fun _ => _) _ _ _
  refine wpAny_bind (heldT hz h0 fun h₁ hz₁ hs₁ => ?_)
  simp only [Bool.false_eq_true, if_false]
  refine wpAny_bind ?_
  rw [← Array.forIn_toList]
  simp only [List.forIn_cons, List.forIn_nil]
  have ne : ∀ {c d : Addr} {f : List Addr}, c ∈ f → d ∉ f → c ≠ d := fun hc hd e => hd (e ▸ hc)
  have s11 : S1 k h₁ := fr1 _ _ st1 fun c hc o e => (hs₁.2 c (ne hc D.a1.1)).trans e
  have s21 : S2 k h₁ := fr2 _ _ st2 fun c hc o e => (hs₁.2 c (ne hc D.a2.1)).trans e
  refine wpAny_bind (wpAny_bind (wpAny_holding ?_))
  show wpAny _ _ (Builtin.SmallTypes.nextOf (.ref i1) >>= fun _ => _) _ _ _
  rcases hend with hend | ⟨⟨hk1, D1⟩, hend⟩
  · exact wpAny_bind (hend { s with heap := h₁ } _ _ s11 fun h₂ e hs₂ he => fin h₂ e s.toks (fun c o c1 c3 _ x => hs₂ c o c3 ((hs₁.2 c c1).trans x)) he)
  · refine wpAny_bind (D1.item k { s with heap := h₁ } _ _ hk1 s11 fun x h₂ tk₂ hx s12 hs₂ => wpAny_pure (wpAny_pure ?_))
    have s22 : S2 k h₂ := fr2 _ _ s21 fun c hc o e => (hs₂.2 c (ne hc D.a2.2.2)).trans e
    refine wpAny_bind (wpAny_bind (wpAny_holding ?_))
    show wpAny _ _ (Builtin.SmallTypes.nextOf (.ref i2) >>= fun _ => _) _ _ _
    exact wpAny_bind (hend { s with heap := h₂, toks := tk₂ } _ _ s22 fun h₃ e hs₃ he => fin h₃ e tk₂ (fun c o c1 c3 c4 x => hs₃ c o c4 ((hs₂.2 c c3).trans ((hs₁.2 c c1).trans x))) he)
end
end L3

namespace L3
open PySem PySem.Spec PyProof.Rows L2
/-- how the zip stands: new, or its last pair is held -/
def ZSt (h : Heap) (z TI TO : Addr) : Prop := (IsZip h z TI TO .none ∧ ∃ u v, IsPair h TO u v) ∨ ∃ T0 o0, ZipH h z TI TO T0 ∧ h.get? T0 = some o0 ∧ T0 ≠ z ∧ ∃ oO, h.get? TO = some oO
section
variable {X : Cx} {pins : List (Addr × Obj)} {σ : St} {A : Around} {z TI TO i1 i2 ta lb S : Addr} {us ws : List Value} {xs ys : List V} {dx dy : List D} {H0 : Hp} {H3 : Hp3} {R : Result → Shared → Prop}
theorem zip_next (hh : A.handled = none) (D : ZAp z TI TO i1 i2 [i1, ta] [i2, lb]) (n1 : ta ≠ i1) (n2 : lb ≠ i2) {i : Nat} {s : Shared} {H : Hp} {E : Value → Shared → Prop} {Q : Option Value → Shared → Prop} (I : L2.Inv X pins σ H s)
    (hf : ∀ b ∈ [z, TI, TO, i1, i2], FpOk X pins H b) (hz : ZSt s.heap z TI TO) (hTI : IsPair s.heap TI (.ref i1) (.ref i2)) (h1 : s.heap.IsTupleIter i1 ta i) (h2 : s.heap.IsTuple ta us.toArray) (h3 : s.heap.IsListIter i2 lb i) (h4 : s.heap.IsList lb ws.toArray)
    (hi1 : i < us.length) (hi2 : i < ws.length) {x y : V} (rx : ∀ u, us[i]? = some u → RelV x u) (ry : ∀ u, ws[i]? = some u → RelV y u)
    (hQ : ∀ h' tk, L2.Inv X pins σ (upd H s.heap.objs.size (.tup [x, y])) { s with heap := h', toks := tk } → ZSt h' z TI TO → IsPair h' TI (.ref i1) (.ref i2) → h'.IsTupleIter i1 ta (i + 1) → h'.IsTuple ta us.toArray → h'.IsListIter i2 lb (i + 1) → h'.IsList lb ws.toArray →
      (∀ c o, c ∉ [z, TI, TO, i1, i2] → s.heap.get? c = some o → h'.get? c = some o) → Q (some (.ref s.heap.objs.size)) { s with heap := h', toks := tk }) :
    wpAny (model X.prog X.w) A (pyNext (.ref z)) Q E s := by
  have DT := drawsT (prog := X.prog) (w := X.w) (A := A.in1) hh i1 ta n1 us.toArray
  have DL := Draws.list (prog := X.prog) (w := X.w) (A := A.in1) hh i2 lb n2 ws.toArray
  have o1 : ∀ {h : Heap}, h.IsTupleIter i1 ta i → ∃ o, h.get? i1 = some o := fun ⟨o, e, _⟩ => ⟨o, e⟩
  have big : ∀ c ∈ [z, TI, TO, i1, i2], (∃ o, s.heap.get? c = some o) → s.heap.objs.size ≠ c := fun c _ ⟨o, e⟩ => Nat.ne_of_gt (Heap.lt_size e)
  have k1 : i < us.toArray.size := by simpa using hi1
  have k2 : i < ws.toArray.size := by simpa using hi2
  have two : ∀ {h' : Heap} {tk : Nat} {u v : Value}, us.toArray[i]? = some u → ws.toArray[i]? = some v → IsPair h' s.heap.objs.size u v → (∀ c o, c ∉ [z, TI, TO, i1, i2] → s.heap.get? c = some o → h'.get? c = some o) → L2.Inv X pins σ (upd H s.heap.objs.size (.tup [x, y])) { s with heap := h', toks := tk } := fun hu hv hp hk =>
    turnedNew (ch := [z, TI, TO, i1, i2]) I (fun c o hcn e => hk c o hcn e) hf (Nat.le_refl _) ⟨by show 2 ≤ sizeLine; decide, [_, _], .cons (rx _ (by simpa using hu)) (.cons (ry _ (by simpa using hv)) .nil), ⟨_, hp, rfl, _, rfl⟩⟩
  have out : ∀ {c : Addr}, c ∉ [z, TI, TO, i1, i2] → c ≠ z ∧ c ≠ TI ∧ c ≠ TO ∧ c ≠ i1 ∧ c ≠ i2 := fun h => by simp only [List.mem_cons, List.not_mem_nil, or_false, not_or] at h; exact h
  rcases hz with ⟨hz, u0, v0, hTO⟩ | ⟨T0, o0, hz, h0, hT0, oO, hO⟩
  · refine zipD_item (k := i) D DT DL k1 k2 hz hTI hTO ⟨h1, h2⟩ ⟨h3, h4⟩ fun h' tk u v hu hv a1 a2 sa sb a5 a7 => ?_
    have hk : ∀ c o, c ∉ [z, TI, TO, i1, i2] → s.heap.get? c = some o → h'.get? c = some o := fun c o hc e => a7 c o (out hc).1 (out hc).2.2.1 (out hc).2.2.2.1 (out hc).2.2.2.2 e
    exact hQ h' tk (two hu hv a5 hk) (.inr ⟨s.heap.objs.size, _, ⟨false, a1⟩, a5, big z (by simp) ⟨_, hz⟩, _, a2⟩) (a7 TI _ D.TIz D.TITO D.TIi1 D.TIi2 hTI) sa.1 sa.2 sb.1 sb.2 hk
  · refine zipN_item (k := i) D DT DL k1 k2 hz h0 hTI ⟨h1, h2⟩ ⟨h3, h4⟩ fun h' tk u v hu hv a1 sa sb a5 a7 => ?_
    have hk : ∀ c o, c ∉ [z, TI, TO, i1, i2] → s.heap.get? c = some o → h'.get? c = some o := fun c o hc e => a7 c o (out hc).1 (out hc).2.2.2.1 (out hc).2.2.2.2 e
    have h0' : ∃ o, h'.get? T0 = some o := by
      by_cases e1 : T0 = i1
      · obtain ⟨o, e, _⟩ := sa.1; exact ⟨o, by rw [e1]; exact e⟩
      · by_cases e2 : T0 = i2
        · obtain ⟨o, e, _⟩ := sb.1; exact ⟨o, by rw [e2]; exact e⟩
        · exact ⟨o0, a7 T0 o0 hT0 e1 e2 h0⟩
    obtain ⟨o', h0'⟩ := h0'
    exact hQ h' tk (two hu hv a5 hk) (.inr ⟨T0, o', a1, h0', hT0, oO, a7 TO _ D.TOz D.TOi1 D.TOi2 hO⟩) (a7 TI _ D.TIz D.TIi1 D.TIi2 hTI) sa.1 sa.2 sb.1 sb.2 hk
theorem zip_stop (hh : A.handled = none) (D : ZAp z TI TO i1 i2 [i1, ta] [i2, lb]) (n1 : ta ≠ i1) (n2 : lb ≠ i2) {i : Nat} {s : Shared} {H : Hp} {E : Value → Shared → Prop} {Q : Option Value → Shared → Prop} (I : L2.Inv X pins σ H s)
    (hf : ∀ b ∈ [z, TI, TO, i1, i2], FpOk X pins H b) (hz : ZSt s.heap z TI TO) (hTI : IsPair s.heap TI (.ref i1) (.ref i2)) (h1 : s.heap.IsTupleIter i1 ta i) (h2 : s.heap.IsTuple ta us.toArray) (h3 : s.heap.IsListIter i2 lb i) (h4 : s.heap.IsList lb ws.toArray)
    (hi : us.length ≤ i ∨ ws.length ≤ i)
    (hQ : ∀ h' tk, L2.Inv X pins σ H { s with heap := h', toks := tk } → (∀ c o, c ∉ [z, TI, TO, i1, i2] → s.heap.get? c = some o → h'.get? c = some o) → Q none { s with heap := h', toks := tk }) :
    wpAny (model X.prog X.w) A (pyNext (.ref z)) Q E s := by
  have DT := drawsT (prog := X.prog) (w := X.w) (A := A.in1) hh i1 ta n1 us.toArray
  have DL := Draws.list (prog := X.prog) (w := X.w) (A := A.in1) hh i2 lb n2 ws.toArray
  have out : ∀ {c : Addr}, c ∉ [z, TI, TO, i1, i2] → c ≠ z ∧ c ≠ TI ∧ c ≠ TO ∧ c ≠ i1 ∧ c ≠ i2 := fun h => by simp only [List.mem_cons, List.not_mem_nil, or_false, not_or] at h; exact h
  have e1 : us.length ≤ i → Endd X.prog X.w A.in1 i1 ((fun i h => h.IsTupleIter i1 ta i ∧ h.IsTuple ta us.toArray) i) := fun hle s' Q' E' st' hE => nextOf_tup_end hh st'.1 st'.2 (by simp; omega) hE
  have e2 : ws.length ≤ i → Endd X.prog X.w A.in1 i2 ((fun i h => h.IsListIter i2 lb i ∧ h.IsList lb ws.toArray) i) := fun hle s' Q' E' st' hE => wpAny_nextOf_list_end hh st'.1 st'.2 (by simp; omega) hE
  have he : Endd X.prog X.w A.in1 i1 ((fun i h => h.IsTupleIter i1 ta i ∧ h.IsTuple ta us.toArray) i) ∨ ((i < us.toArray.size ∧ Draws X.prog X.w A.in1 i1 [i1, ta] us.toArray.size (fun i v => us.toArray[i]? = some v) (fun i h => h.IsTupleIter i1 ta i ∧ h.IsTuple ta us.toArray)) ∧ Endd X.prog X.w A.in1 i2 ((fun i h => h.IsListIter i2 lb i ∧ h.IsList lb ws.toArray) i)) := by
    by_cases hle : us.length ≤ i
    · exact .inl (e1 hle)
    · exact .inr ⟨⟨by simp; omega, DT⟩, e2 (by omega)⟩
  rcases hz with ⟨hz, u0, v0, hTO⟩ | ⟨T0, o0, hz, h0, hT0, oO, hO⟩
  · refine zipD_end (k := i) (P1 := fun i v => us.toArray[i]? = some v) (n1 := us.toArray.size) (S1 := fun i h => h.IsTupleIter i1 ta i ∧ h.IsTuple ta us.toArray) (S2 := fun i h => h.IsListIter i2 lb i ∧ h.IsList lb ws.toArray) D (fun _ _ q k => DT.frame i _ _ q k) (fun _ _ q k => DL.frame i _ _ q k) he hz hTI hTO ⟨h1, h2⟩ ⟨h3, h4⟩ fun h' tk k => ?_
    have hk : ∀ c o, c ∉ [z, TI, TO, i1, i2] → s.heap.get? c = some o → h'.get? c = some o := fun c o hc e => k c o (out hc).1 (out hc).2.2.1 (out hc).2.2.2.1 (out hc).2.2.2.2 e
    exact hQ h' tk (turnedL (t' := tk) (ch := [z, TI, TO, i1, i2]) I hk hf) hk
  · refine zipN_end (k := i) (P1 := fun i v => us.toArray[i]? = some v) (n1 := us.toArray.size) (S1 := fun i h => h.IsTupleIter i1 ta i ∧ h.IsTuple ta us.toArray) (S2 := fun i h => h.IsListIter i2 lb i ∧ h.IsList lb ws.toArray) D (fun _ _ q k => DT.frame i _ _ q k) (fun _ _ q k => DL.frame i _ _ q k) he hz h0 hTI ⟨h1, h2⟩ ⟨h3, h4⟩ fun h' tk k => ?_
    have hk : ∀ c o, c ∉ [z, TI, TO, i1, i2] → s.heap.get? c = some o → h'.get? c = some o := fun c o hc e => k c o (out hc).1 (out hc).2.2.2.1 (out hc).2.2.2.2 e
    exact hQ h' tk (turnedL (t' := tk) (ch := [z, TI, TO, i1, i2]) I hk hf) hk
end
end L3

namespace L3
open PySem PySem.Spec PyProof.Rows L2
def tIt (t : Addr) : Obj := { cls := .type "tuple_iterator", data := .fields #[.ref t, .int 0 0] }
set_option maxHeartbeats 4000000 in
theorem meets_zip_Tl (t l : Addr) (xs ys : Array Value) :
    Meets (Builtin.«zip.__new__» ⟨[.type "zip", .ref t, .ref l], []⟩) (fun _ R s => (s.heap.IsTuple t xs ∧ s.heap.IsList l ys) ∧ R (.ok (.ret (.ref (zh4 s.heap (tIt t) (lIt l)).objs.size))) { s with heap := zh5 s.heap (tIt t) (lIt l) }) :=
  .of_wp fun prog w A R s h => by
    obtain ⟨hp, g, d, tk, os⟩ := s
    obtain ⟨⟨ht, hl⟩, h⟩ := h
    have hsub := sub_zip
    have hT : Heap.IsTuple (Shared.heap ⟨hp, g, d, tk, os⟩) t xs := ht
    have hL : Heap.IsList (Shared.heap ⟨hp.push { cls := .type "tuple_iterator", data := .fields #[.ref t, .int 0 0] }, g, d, tk, os⟩) l ys := Heap.IsList.push hl _
    wp_walk using wpAny_pyIter_tuple hT, wpAny_pyIter_list hL
    exact ⟨_, rfl, h⟩
theorem call_zip_Tl {prog : Program} {w : World} {A : Around} {E : Value → Shared → Prop} {s : Shared} {t l : Addr} {xs ys : Array Value} {Q : Value → Shared → Prop} (ht : s.heap.IsTuple t xs) (hl : s.heap.IsList l ys)
    (h : Q (.ref (s.heap.objs.size + 4)) { s with heap := zh5 s.heap (tIt t) (lIt l) }) : wpAny (model prog w) A (call (.type "zip") [.ref t, .ref l]) Q E s := by
  refine callType_new F.called_zip (by decide) (F.typeCall_zip_2 _ _) (F.newCall_zip_2 _ _) (fun obj => F.args_object_init_3 obj _ _) F.entry_zip_new (meets_zip_Tl t l xs ys) ⟨⟨ht, hl⟩, ?_⟩
  obtain ⟨z4, g5, _⟩ := zh_at s.heap (tIt t) (lIt l) rfl rfl
  show _ ∧ _
  rw [z4]
  exact ⟨⟨_, g5, rfl⟩, h⟩
theorem zip_nolen : typeLookup (.type "zip") "__len__" = pure none := by
  rw [typeLookup_type, builtinLookup_eq_fast]
  kernel_rfl
theorem zip_nohint : typeLookup (.type "zip") "__length_hint__" = pure none := by
  rw [typeLookup_type, builtinLookup_eq_fast]
  kernel_rfl
section
variable {X : Cx} {pins : List (Addr × Obj)} {σ : St} {A : Around} {z TI TO i1 i2 ta lb S : Addr} {us ws : List Value} {xs ys : List V} {dx dy : List D} {H0 : Hp} {H3 : Hp3} {R : Result → Shared → Prop} {res : Value}
/-- the pairs so far -/
theorem zip_loop (hh : A.handled = none) (D : ZAp z TI TO i1 i2 [i1, ta] [i2, lb]) (n1 : ta ≠ i1) (n2 : lb ≠ i2) (hS : S ∉ [z, TI, TO, i1, i2]) (hSt : S ≠ ta) (hSl : S ≠ lb) (rx : Vals xs us) (ry : Vals ys ws) (px : RepL X.K H0 dx xs) (py : RepL X.K H0 dy ys) (hu : us.length ≤ 1000) :
    ∀ (m i : Nat) (s : Shared) (H : Hp) (acc : Array Value) (c : Nat) (vs : List V), min us.length ws.length - i = m → i ≤ min us.length ws.length → L2.Inv X pins σ H s → TK H0 H → HR X.K H3 H → (∀ b ∈ [z, TI, TO, i1, i2], FpOk X pins H b) → FpOk X pins H S → ZSt s.heap z TI TO → IsPair s.heap TI (.ref i1) (.ref i2) →
      s.heap.IsTupleIter i1 ta i → s.heap.IsTuple ta us.toArray → s.heap.IsListIter i2 lb i → s.heap.IsList lb ws.toArray → s.heap.get? S = some { cls := .type "list", dict := none, data := .seq acc c, slots := #[] } → Vals vs acc.toList → RepL X.K H ((zipD dx dy).take i) vs → vs.length = i →
      (∀ s' H' vs' acc' c', L2.Inv X pins σ H' s' → TK H0 H' → HR X.K H3 H' → FpOk X pins H' S → FpOk X pins H' z → s'.heap.get? S = some { cls := .type "list", dict := none, data := .seq acc' c', slots := #[] } → Vals vs' acc'.toList → RepL X.K H' (zipD dx dy) vs' → vs'.length ≤ 1000 → R (.ok (.ret res)) s') →
      codeAny (model X.prog X.w) A (.builtin "list.extend.loop" ⟨[.ref S, .ref z, res], []⟩) R s := by
  have lz : (zipD dx dy).length = min us.length ws.length := by unfold zipD; rw [List.length_zipWith, px.length, py.length, rx.length, ry.length]
  intro m
  induction m with
  | zero =>
    intro i s H acc c vs hm hi I tk hr hf fS hz hTI h1 h2 h3 h4 hs hv hrep hlen hR
    refine codeAny_builtin F.entry_extend_loop ?_
    rw [Around.under_plainId F.plain_extend_loop _]
    show wpAny _ A.in1 (pyNext (.ref z) >>= fun _ => _) _ _ s
    refine wpAny_bind (zip_stop (A := A.in1) hh D n1 n2 I hf hz hTI h1 h2 h3 h4 (by omega) fun h' t' I' hk => ?_)
    refine wpAny_pure (hR _ H vs acc c I' tk hr fS (hf z (by simp)) (hk S _ hS hs) hv ?_ (by omega))
    rw [List.take_of_length_le (by omega)] at hrep
    exact hrep
  | succ m ih =>
    intro i s H acc c vs hm hi I tk hr hf fS hz hTI h1 h2 h3 h4 hs hv hrep hlen hR
    refine codeAny_builtin F.entry_extend_loop ?_
    rw [Around.under_plainId F.plain_extend_loop _]
    show wpAny _ A.in1 (pyNext (.ref z) >>= fun _ => _) _ _ s
    have hx : i < xs.length := by rw [rx.length]; omega
    have hy : i < ys.length := by rw [ry.length]; omega
    have gx : xs[i]? = some xs[i] := List.getElem?_eq_getElem hx
    have gy : ys[i]? = some ys[i] := List.getElem?_eq_getElem hy
    obtain ⟨u, eu, ru⟩ := rx.get gx
    obtain ⟨v, ev, rv⟩ := ry.get gy
    have hT : H s.heap.objs.size = none := I.hok.fresh (Nat.le_refl _)
    refine wpAny_bind (zip_next (A := A.in1) hh D n1 n2 I hf hz hTI h1 h2 h3 h4 (by omega) (by omega) (x := xs[i]) (y := ys[i]) (fun w e => by rw [eu] at e; cases e; exact ru) (fun w e => by rw [ev] at e; cases e; exact rv) fun h' t' I' hz' hTI' h1' h2' h3' h4' hk => ?_)
    have hs' := hk S _ hS hs
    have al : acc.size = i := by rw [← Array.length_toList, ← hv.length]; exact hlen
    show wpAny _ A.in1 (updateSeq S (·.push (Value.ref s.heap.objs.size)) >>= fun _ => _) _ _ _
    refine wpAny_bind ?_
    have oth : ∀ b o, b ≠ S → h'.get? b = some o → (h'.update S (Obj.mapSeq (·.push (Value.ref s.heap.objs.size)))).get? b = some o := fun b o hb e => (Heap.get?_update_other _ _ (Ne.symm hb)).trans e
    have tk1 : TK H (upd H s.heap.objs.size (.tup [xs[i], ys[i]])) := TK.fresh hT
    have nS : S ≠ s.heap.objs.size := Nat.ne_of_lt (Heap.lt_size hs)
    have fS' : FpOk X pins (upd H s.heap.objs.size (.tup [xs[i], ys[i]])) S := ⟨by rw [upd_ne nS]; exact fS.1, fS.2⟩
    have old : ∀ b ∈ [z, TI, TO, i1, i2], ∃ o, s.heap.get? b = some o := by
      intro b hb
      simp only [List.mem_cons, List.not_mem_nil, or_false] at hb
      rcases hb with rfl | rfl | rfl | rfl | rfl
      · rcases hz with ⟨q, _⟩ | ⟨_, _, ⟨_, q⟩, _⟩
        · exact ⟨_, q⟩
        · exact ⟨_, q⟩
      · exact ⟨_, hTI⟩
      · rcases hz with ⟨_, _, _, q⟩ | ⟨_, _, _, _, _, o, q⟩
        · exact ⟨_, q⟩
        · exact ⟨_, q⟩
      · obtain ⟨o, e, _⟩ := h1; exact ⟨o, e⟩
      · obtain ⟨o, e, _⟩ := h3; exact ⟨o, e⟩
    have hf' : ∀ b ∈ [z, TI, TO, i1, i2], FpOk X pins (upd H s.heap.objs.size (.tup [xs[i], ys[i]])) b := fun b hb => by
      obtain ⟨o, e⟩ := old b hb
      exact ⟨by rw [upd_ne (Nat.ne_of_lt (Heap.lt_size e))]; exact (hf b hb).1, (hf b hb).2⟩
    have I2 := turnedL (t' := t') (ch := [S]) (h' := h'.update S (Obj.mapSeq (·.push (Value.ref s.heap.objs.size)))) I' (fun b o hb e => oth b o (fun q => hb (by simp [q])) e) (fun b hb => by rw [List.mem_singleton.mp hb]; exact fS')
    have zS : ∀ b ∈ [z, TI, TO, i1, i2], b ≠ S := fun b hb e => hS (e ▸ hb)
    have hz2 : ZSt (h'.update S (Obj.mapSeq (·.push (Value.ref s.heap.objs.size)))) z TI TO := by
      rcases hz' with ⟨q, u0, v0, q2⟩ | ⟨T0, o0, ⟨b0, q⟩, q2, q3, oO, q4⟩
      · exact .inl ⟨oth _ _ (zS z (by simp)) q, u0, v0, oth _ _ (zS TO (by simp)) q2⟩
      · by_cases e : T0 = S
        · exact .inr ⟨T0, _, ⟨b0, oth _ _ (zS z (by simp)) q⟩, by rw [e]; exact Heap.get?_update_self _ hs' rfl, q3, oO, oth _ _ (zS TO (by simp)) q4⟩
        · exact .inr ⟨T0, o0, ⟨b0, oth _ _ (zS z (by simp)) q⟩, oth _ _ e q2, q3, oO, oth _ _ (zS TO (by simp)) q4⟩
    have hd : dx[i]? = some (dx[i]'(by rw [px.length]; exact hx)) := List.getElem?_eq_getElem _
    have hd' : dy[i]? = some (dy[i]'(by rw [py.length]; exact hy)) := List.getElem?_eq_getElem _
    obtain ⟨vx, evx, rvx⟩ := px.get hd
    obtain ⟨vy, evy, rvy⟩ := py.get hd'
    rw [gx] at evx; cases evx
    rw [gy] at evy; cases evy
    have ez : (zipD dx dy).take (i + 1) = (zipD dx dy).take i ++ [.tup [dx[i]'(by rw [px.length]; exact hx), dy[i]'(by rw [py.length]; exact hy)]] := by
      rw [List.take_add_one]
      congr 1
      unfold zipD
      rw [List.getElem?_zipWith, hd, hd']; rfl
    refine wpAny_updateSeq hs' rfl (wpAny_pure ⟨plainId_quiet F.plain_extend_loop _, ih (i + 1) _ _ (acc.push (.ref s.heap.objs.size)) _ (vs ++ [.ref s.heap.objs.size]) (by omega) (by omega) I2 (tk.trans tk1) (hr.tup hT) hf' fS' hz2 (oth _ _ (zS TI (by simp)) hTI') (h1'.at fun o e => oth _ o (zS i1 (by simp)) e) (h2'.at fun o e => oth _ o hSt.symm e) (h3'.at fun o e => oth _ o (zS i2 (by simp)) e) (h4'.at fun o e => oth _ o hSl.symm e) (Heap.get?_update_self _ hs' rfl) ?_ ?_ (by rw [List.length_append, hlen]; rfl) hR⟩)
      (by rw [al, sizeLine_eq]; omega) (by show (acc.push _).size ≤ sizeLine + 1; rw [Array.size_push, al, sizeLine_eq]; omega)
    · rw [Array.toList_push]
      exact Vals.snoc1 hv rfl
    · rw [ez]
      exact (hrep.mono tk1).snoc (.tup upd_same (.cons (rvx.mono (tk.trans tk1)) (.cons (rvy.mono (tk.trans tk1)) .nil)))
end
end L3

namespace L3
open PySem PySem.Spec PyProof.Rows L2
/-- what a zip leaves to the list at S -/
theorem ext_zip {prog : Program} {w : World} {A : Around} {s : Shared} {R : Result → Shared → Prop} {S z TI TO : Addr} {res : Value} {c0 : Nat} (hSz : S ≠ z) (hS : s.heap.get? S = some { cls := .type "list", data := .seq #[] c0 }) (hz : IsZip s.heap z TI TO .none)
    (h : ∀ h' c, (∀ b o, b ≠ S → s.heap.get? b = some o → h'.get? b = some o) → h'.get? S = some { cls := .type "list", dict := none, data := .seq #[] c, slots := #[] } → codeAny (model prog w) A (.builtin "list.extend.loop" ⟨[.ref S, .ref z, res], []⟩) R { s with heap := h' }) :
    wpAny (model prog w) A.in1 (Builtin.List.listExtendWith (.ref S) (.ref z) res) (fun fin s' => match fin with
      | .done f => R (.ok f) s'
      | .again c => c.quiet = true ∧ codeAny (model prog w) A c R s') (fun e s' => R (.error e) s') s := by
  have hT : s.TypeIs (.ref z) "zip" := ⟨_, hz, rfl⟩
  have h1 : Builtin.List.listSameRef (.ref S) (.ref z) = false := by simp [Builtin.List.listSameRef, hSz]
  unfold Builtin.List.listExtendWith
  refine wpAny_bind (wpAny_typeOf hT ?_)
  rw [if_neg (by rw [h1]; decide)]
  refine wpAny_bind (wpAny_pyIter_zip hz ?_)
  refine wpAny_bind (wpAny_holding ?_)
  unfold Builtin.List.listLengthHint
  refine wpAny_bind (wpAny_specialOf hT zip_nolen ?_)
  show wpAny _ A.in1 (specialOf (Value.ref z) (Str.ofString "__length_hint__") >>= fun _ => _) _ _ s
  refine wpAny_bind (wpAny_specialOf hT zip_nohint (wpAny_pure ?_))
  rw [if_pos (by rfl)]
  refine wpAny_bind (wpAny_rule ?_)
  unfold Builtin.List.listTouch
  refine wpAny_bind (wpAny_bind ?_)
  show wpAny _ _ (updateSeq S (fun x => x.push Value.none)) _ _ s
  refine wpAny_updateSeq hS rfl ?_
  have g1 := Heap.get?_update_self (Obj.mapSeq (fun x : Array Value => x.push Value.none)) hS rfl
  have o1 : ∀ b o, b ≠ S → s.heap.get? b = some o → (s.heap.update S (Obj.mapSeq (fun x : Array Value => x.push Value.none))).get? b = some o := fun b o hb e => (Heap.get?_update_other _ _ (Ne.symm hb)).trans e
  show wpAny _ _ (updateSeq S (fun x => x.pop)) _ _ { s with heap := s.heap.update S (Obj.mapSeq (fun x : Array Value => x.push Value.none)) }
  refine wpAny_updateSeq g1 rfl ?_
  have g2 := Heap.get?_update_self (Obj.mapSeq (fun x : Array Value => x.pop)) g1 rfl
  exact wpAny_pure ⟨plainId_quiet F.plain_extend_loop _, h _ _ (fun b o hb e => (Heap.get?_update_other _ _ (Ne.symm hb)).trans (o1 b o hb e)) g2⟩
section
variable {X : Cx}
theorem p3_listzip {a b : Expr} {ta tb : TE3} {p1 p2 pos1 pos2 : Pos} (hc : X.calm = true) (m1 : X.mg "list" = none) (m2 : X.mg "zip" = none) (ha : PE3 X a ta) (hb : PE3 X b tb) (g1 : Gl X "list" := by rfl) (g2 : Gl X "zip" := by rfl)
    (hs : starEach [.Call (.Name "zip" p2) [a, b] [] pos2] X.env = [(false, eval (.Call (.Name "zip" p2) [a, b] [] pos2) X.env)] := by rfl) (hs0 : starEach [a, b] X.env = [(false, eval a X.env), (false, eval b X.env)] := by rfl) (hs2 : starEach [b] X.env = [(false, eval b X.env)] := by rfl)
    (hs3 : starEach [a, b] X.env = (false, eval a X.env) :: starEach [b] X.env := by rfl) (hs4 : starEach [b] X.env = (false, eval b X.env) :: starEach [] X.env := by rfl) :
    PE3 X (.Call (.Name "list" p1) [.Call (.Name "zip" p2) [a, b] [] pos2] [] pos1) (lz3 ta tb) := by
  intro pins s σ H Q I ⟨σ3, H3, Q3, sr, hr3, t, kk⟩
  refine Call_ (ld_blt I g1 m1 boot_list (PyProof.Rows.callWith_type1 ?_ hs rfl))
  rw [hs]
  refine Calls.spliced_cons ?_
  have hp : PA3 X [a, b] (cons3 ta (cons3 tb nil3)) := a3_cons ha (a3_cons hb a3_nil hs4) hs3
  refine Call_ (ld_blt I g2 m2 boot_zip (PyProof.Rows.callWith_type1 (thn (hp pos2 pins s σ H (fun vs H1 => ∃ t0 l0 xs ys dx dy H3', vs = [.ref t0, .ref l0] ∧ TK H H1 ∧ HR X.K H3' H1 ∧ H1 t0 = some (.tup xs) ∧ H1 l0 = some (.lst ys) ∧ RepL X.K H1 dx xs ∧ RepL X.K H1 dy ys ∧ dx.length ≤ 1000 ∧ ∀ p, H3' p = none → Q3 (.ref p) (upd3 H3' p (.lst (zipD dx dy)))) I
    ⟨σ3, H3, fun ds H1 => (match ds with | [x, y] => lzk x y H1 Q3 | _ => False), sr, hr3, t, fun ds vs H3a Ha tka hra rs qa => ?_⟩) fun us s1 ⟨vs, H1, I1, r1, t0, l0, xs, ys, dx, dy, H3', e, tk1, hr1, et, el, px, py, hl, q⟩ => ?_) (by rw [hs0, hs2]) (by rw [hs2]; rfl)))
  · cases rs with
    | nil => exact qa.elim
    | cons r1 r2 =>
      cases r2 with
      | nil => exact qa.elim
      | cons r2 r3 =>
        cases r3 with
        | cons _ _ => exact qa.elim
        | nil =>
          cases r1 with
          | tup ht rt =>
            cases r2 with
            | ref l =>
              simp only [lzk] at qa
              split at qa
              · rename_i es he
                obtain ⟨ys, gy, ry⟩ := hra l _ he
                exact ⟨_, l, _, ys, _, es, H3a, rfl, tka, hra, ht, gy, rt, ry, qa.1, qa.2⟩
              · exact qa.elim
            | _ => exact qa.elim
          | _ => exact qa.elim
  subst e
  obtain ⟨u, u', rfl, e1, e2⟩ := vals2 r1
  cases e1
  cases e2
  obtain ⟨its, rx, pt, hzx⟩ := I1.tuple (SqT.of et)
  obtain ⟨jts, ry, pl, hzy⟩ := I1.list (SqL.of el)
  have pt' : s1.heap.IsTuple t0 its.toArray := pt
  have a1 : t0 < s1.heap.objs.size := by obtain ⟨_, e, _⟩ := pt; exact Heap.lt_size e
  have a2 : l0 < s1.heap.objs.size := by obtain ⟨_, e, _⟩ := pl.isList; exact Heap.lt_size e
  refine call_zip_Tl pt' pl.isList ?_
  obtain ⟨z4, g5, g3, g4, gg1, gg2, hk⟩ := zh_at s1.heap (tIt t0) (lIt l0) rfl rfl
  generalize hn : s1.heap.objs.size = n at *
  refine Calls.spliced_nil ?_
  have I2 : L2.Inv X pins σ H1 { s1 with heap := zh5 s1.heap (tIt t0) (lIt l0), toks := s1.toks } := I1.kept (t' := s1.toks) hk
  have D : ZAp (n + 4) (n + 2) (n + 3) n (n + 1) [n, t0] [n + 1, l0] := by
    exact ⟨(show (n + 2 : Nat) ≠ n + 4 from by omega), (show (n + 3 : Nat) ≠ n + 4 from by omega), (show (n : Nat) ≠ n + 4 from by omega), (show (n + 1 : Nat) ≠ n + 4 from by omega), (show (n + 2 : Nat) ≠ n + 3 from by omega), (show (n + 2 : Nat) ≠ n from by omega), (show (n + 2 : Nat) ≠ n + 1 from by omega), (show (n + 3 : Nat) ≠ n from by omega), (show (n + 3 : Nat) ≠ n + 1 from by omega), (show (n : Nat) ≠ n + 1 from by omega), ⟨nm2 (show (n + 4 : Nat) ≠ n from by omega) (ltn a1).1, nm2 (show (n + 3 : Nat) ≠ n from by omega) (ltn a1).2.1, nm2 (show (n + 1 : Nat) ≠ n from by omega) (ltn a1).2.2.1⟩, ⟨nm2 (show (n + 4 : Nat) ≠ n + 1 from by omega) (ltn a2).1, nm2 (show (n + 3 : Nat) ≠ n + 1 from by omega) (ltn a2).2.1, nm2 (show (n : Nat) ≠ n + 1 from by omega) (ltn a2).2.2.2⟩⟩
  -- the new list
  generalize hh5 : zh5 s1.heap (tIt t0) (lIt l0) = h5 at *
  have z5 : h5.objs.size = n + 5 := by rw [← hh5, Heap.size_push, z4]
  refine callType_codes (Q₁ := fun obj s₁ => obj = .ref h5.objs.size ∧ s₁ = { s1 with heap := h5.push { cls := .type "list", data := .seq #[] } }) F.called_list (F.typeCall_list_1 _) F.entry_list_init (code_list_new _ ⟨rfl, rfl⟩) ?_
  rintro obj s₁ ⟨rfl, rfl⟩
  have hS : (h5.push { cls := .type "list", data := .seq #[] }).get? h5.objs.size = some { cls := .type "list", data := .seq #[] } := Heap.get?_push_size _ rfl
  refine ⟨⟨_, hS, rfl⟩, F.args_list_init_2 _ _, ?_⟩
  generalize hp6 : h5.push { cls := .type "list", data := .seq #[] } = h6 at hS
  have k6 : ∀ b o, h5.get? b = some o → h6.get? b = some o := fun b o e => by rw [← hp6]; exact Heap.get?_push_of_some _ e
  show wpAny _ _ (Builtin.List.listItems (.ref h5.objs.size) >>= fun old => Builtin.List.listUpdate (.ref h5.objs.size) (fun _ => #[]) >>= fun _ => letGo old.toList.reverse >>= fun _ => Builtin.List.listExtendWith (.ref h5.objs.size) (.ref (n + 4)) .none) _ _ _
  refine wpAny_bind ?_
  unfold Builtin.List.listItems
  refine wpAny_bind (wpAny_seqItems hS rfl (wpAny_pure ?_))
  show wpAny _ _ (updateSeq h5.objs.size (fun _ => #[]) >>= fun _ => letGo (#[] : Array Value).toList.reverse >>= fun _ => Builtin.List.listExtendWith (.ref h5.objs.size) (.ref (n + 4)) .none) _ _ _
  refine wpAny_bind (wpAny_updateSeq hS rfl ?_)
  have hS2 := Heap.get?_update_self (Obj.mapSeq (fun _ => (#[] : Array Value))) hS rfl
  have oth : ∀ b o, b ≠ h5.objs.size → h6.get? b = some o → (h6.update h5.objs.size (Obj.mapSeq (fun _ => (#[] : Array Value)))).get? b = some o := fun b o hb e => (Heap.get?_update_other _ _ (Ne.symm hb)).trans e
  generalize h6.update h5.objs.size (Obj.mapSeq (fun _ => (#[] : Array Value))) = h7 at hS2 oth
  refine wpAny_bind (wpAny_letGo ?_)
  have lt5 : ∀ {b : Addr} {o : Obj}, h5.get? b = some o → b ≠ h5.objs.size := fun e => Nat.ne_of_lt (Heap.lt_size e)
  have k7 : ∀ b o, h5.get? b = some o → h7.get? b = some o := fun b o e => oth b o (lt5 e) (k6 b o e)
  refine ext_zip (A := X.A.in1) (s := { s1 with heap := h7 }) (TI := n + 2) (TO := n + 3) (by rw [z5]; show (n + 5 : Nat) ≠ n + 4; omega) hS2 (k7 _ _ g5) fun h8 c8 k8 hS8 => ?_
  have k58 : ∀ b o, h5.get? b = some o → h8.get? b = some o := fun b o e => k8 b o (lt5 e) (k7 b o e)
  have I8 : L2.Inv X pins σ H1 { s1 with heap := h8, toks := s1.toks } := I1.kept (t' := s1.toks) fun b o e => k58 b o (hk b o e)
  have fp : ∀ b, n ≤ b → FpOk X pins H1 b := fun b hb => I1.fpOk (b := b) (H' := H1) (by rw [hn]; exact hb) (I1.hok.fresh (by rw [hn]; exact hb))
  refine zip_loop (X := X) (pins := pins) (σ := σ) (A := X.A.in1) (H0 := H1) (H3 := H3') (us := its) (ws := jts) (xs := xs) (ys := ys) (dx := dx) (dy := dy) (I1.ok.hd hc) D (Nat.ne_of_lt a1) (Nat.ne_of_lt (Nat.lt_of_lt_of_le a2 (Nat.le_succ n)))
    (by rw [z5]; simp only [List.mem_cons, List.not_mem_nil, or_false, not_or]; exact ⟨(show (n + 5 : Nat) ≠ n + 4 from by omega), (show (n + 5 : Nat) ≠ n + 2 from by omega), (show (n + 5 : Nat) ≠ n + 3 from by omega), (show (n + 5 : Nat) ≠ n from by omega), (show (n + 5 : Nat) ≠ n + 1 from by omega)⟩)
    (by rw [z5]; exact Ne.symm (Nat.ne_of_lt (Nat.lt_of_lt_of_le a1 (Nat.le_add_right n 5)))) (by rw [z5]; exact Ne.symm (Nat.ne_of_lt (Nat.lt_of_lt_of_le a2 (Nat.le_add_right n 5)))) rx ry px py (by rw [← rx.length, ← px.length]; exact hl)
    _ 0 _ H1 #[] c8 [] rfl (Nat.zero_le _) I8 TK.refl hr1 (fun b hb => fp b (by simp only [List.mem_cons, List.not_mem_nil, or_false] at hb; rcases hb with rfl | rfl | rfl | rfl | rfl <;> first | exact Nat.le_refl _ | exact Nat.le_add_right _ _)) (fp _ (by rw [z5]; exact Nat.le_add_right _ _))
    (.inl ⟨k58 _ _ g5, _, _, k58 _ _ g4⟩) (k58 _ _ g3) ⟨_, k58 _ _ gg1, rfl, rfl⟩ (pt'.at fun o e => k58 _ _ (hk _ _ e)) ⟨_, k58 _ _ gg2, rfl, rfl⟩ (pl.isList.at fun o e => k58 _ _ (hk _ _ e)) hS8 .nil .nil rfl ?_
  intro s' H' vs' acc' c' I' tk' hr' fS fz hS' hv' rp' hl'
  refine ⟨rfl, ?_⟩
  have J := Inv.adopt (D := h5.objs.size) (kS := n + 4) (xs := vs') (its := acc'.toList) (n := c') (h' := s'.heap) I' fS fz (fun b o _ _ e => e) (by rw [Array.toArray_toList]; exact hS') hv' (le_line hl')
  refine ⟨.ref h5.objs.size, _, J, rfl, kk _ _ _ _ ((tk1.trans tk').trans (TK.fresh fS.1)) (hr'.setL (TK.fresh fS.1) (rp'.mono (TK.fresh fS.1))) (.ref _) (q _ (hr'.fresh fS.1))⟩
end
end L3

namespace L3
open PySem PySem.Spec PyProof.Rows L2
theorem vals_ints {us : List Value} {ns : List Int} (h : IntsAre us ns) : Vals (ns.map V.int) us := by
  induction h with
  | nil => exact .nil
  | cons n t _ ih => exact .cons ⟨t, rfl⟩ ih
section
variable {X : Cx}
theorem cb3_sortI : CallR X (.builtin "sorted") (liftC X.K r3sortI) := by
  intro pins s σ H xs us Q I rs h
  obtain ⟨ds, H3, Q3, hr, rd, t, k⟩ := h
  cases rd with
  | nil => exact t.elim
  | cons r1 r2 =>
    cases r2 with
    | cons _ _ => cases r1 <;> exact t.elim
    | nil =>
      cases r1 with
      | ref a =>
        simp only [r3sortI] at t
        split at t
        · rename_i ds ha
          split at t
          · rename_i ns en
            obtain ⟨h64, t⟩ := t
            have e' := intsOf_inv en
            subst e'
            obtain ⟨vs, ga, ra⟩ := hr a _ ha
            have ev := RepL.ints_inv ra
            subst ev
            obtain ⟨its, rv, pl, hz⟩ := I.list (SqL.of ga)
            obtain ⟨u, rfl, ru⟩ := Vals.one rs
            obtain rfl : u = Value.ref a := ru
            have hl : its.length = ns.length := by rw [← rv.length, List.length_map]
            refine PyProof.Rows.sorted_ints pl.isList (intsAre_of rv) (by omega) fun out ms hI hp hw => ?_
            obtain ⟨e, he⟩ := sortedAll_at s.heap its out
            have hml : ms.length = ns.length := hp.length_eq
            have fr : H (s.heap.objs.size + 1) = none := I.hok.fresh (Nat.le_succ _)
            refine ⟨.ref (s.heap.objs.size + 1), _, I.laid (t' := s.toks) (a := s.heap.objs.size + 1) (o := .lst (ms.map V.int)) (fun b o q => sortedAll_old q) (Nat.le_succ _) ⟨by rw [List.length_map, hml]; exact le_line (by omega), out.toList, e, vals_ints hI, ?_⟩, rfl, ?_⟩
            · rw [Array.toArray_toList]; exact he
            · exact k _ _ _ _ (TK.fresh fr) (hr.setL (TK.fresh fr) (RepL.ints ms)) (.ref _) (t ms _ hp hw (hr.fresh fr))
          · exact t.elim
        · exact t.elim
      | _ => exact t.elim
theorem sl3_tup : SlR X (liftSl X.K r3slT) := by
  intro pins s σ H x v vl vu lo hi sl Q I rx hs pl pu h
  obtain ⟨d, H3, Q3, hr, rd, t, k⟩ := h
  cases rd with
  | tup ha ra =>
    obtain ⟨hw, t⟩ := t
    refine sl_tup pins s σ H _ v vl vu lo hi sl Q I rx hs pl pu ⟨_, _, rfl, SqT.of ha, by rw [← ra.length]; exact hw, fun p n => k _ _ _ _ (TK.fresh n) (hr.tup n) (.tup upd_same ?_) t⟩
    exact (cut3_rep ra lo hi).mono (TK.fresh n)
  | _ => exact t.elim
end
end L3


namespace Law
open PySem PySem.Spec PyProof.Rows L2 L3
set_option maxHeartbeats 8000000
abbrev N_added : List Str := ["one", "other"]
abbrev P_added : List Str := ["one", "other"]
abbrev N_taken : List Str := ["one", "other"]
abbrev P_taken : List Str := ["one", "other"]
abbrev N_corners_of : List Str := ["corner", "word", "corners", "letter"]
abbrev P_corners_of : List Str := ["corner", "word"]
abbrev N_spans_of : List Str := ["word", "cuts", "ends"]
abbrev P_spans_of : List Str := ["word", "cuts"]
abbrev N_shifts_by : List Str := ["word", "cuts", "corners", "half", "shifts", "span", "fellow_end"]
abbrev P_shifts_by : List Str := ["word", "cuts"]
abbrev N_l_cell_at : List Str := ["_law_script", "_law_k"]
abbrev P_l_cell_at : List Str := ["_law_script", "_law_k"]
abbrev N_l_step : List Str := ["_law_letter"]
abbrev P_l_step : List Str := ["_law_letter"]
abbrev N_l_whole : List Str := ["_law_found"]
abbrev P_l_whole : List Str := ["_law_found"]
abbrev N_l_pair : List Str := ["_law_found", "_law_due"]
abbrev P_l_pair : List Str := ["_law_found", "_law_due"]
abbrev N_l_path : List Str := ["_law_corner", "_law_word_here", "_law_path_here", "_law_letter", "_law_step_here"]
abbrev P_l_path : List Str := ["_law_corner", "_law_word_here"]
abbrev N_l_back : List Str := ["_law_word_here", "_law_made", "_law_letter"]
abbrev P_l_back : List Str := ["_law_word_here"]
abbrev N_l_word : List Str := ["_law_script", "_law_at", "_law_size"]
abbrev P_l_word : List Str := ["_law_script", "_law_at", "_law_size"]
abbrev N_l_letters : List Str := ["_law_script", "_law_at", "_law_size", "_law_menu", "_law_word_here", "_law_k", "_law_letter"]
abbrev P_l_letters : List Str := ["_law_script", "_law_at", "_law_size", "_law_menu"]
abbrev N_l_stretches : List Str := ["_law_script", "_law_at", "_law_cell", "_law_some", "_law_k", "_law_menu"]
abbrev P_l_stretches : List Str := ["_law_script", "_law_at"]
abbrev N_l_built : List Str := ["_law_some", "_law_begin", "_law_half", "_law_word_here", "_law_cuts_here", "_law_at", "_law_one"]
abbrev P_l_built : List Str := ["_law_some", "_law_begin"]
abbrev N_l_cuts : List Str := ["_law_cell", "_law_half", "_law_first", "_law_cuts_here", "_law_third"]
abbrev P_l_cuts : List Str := ["_law_cell", "_law_half"]
abbrev N_l_closed : List Str := ["_law_word_here", "_law_cell", "_law_x", "_law_y", "_law_sides", "_law_heights", "_law_at"]
abbrev P_l_closed : List Str := ["_law_word_here", "_law_cell"]
abbrev N_l_right : List Str := ["_law_word_here", "_law_cuts_here", "_law_found", "_law_fellows", "_law_half", "_law_path_here", "_law_k", "_law_past", "_law_size", "_law_t", "_law_one", "_law_other"]
abbrev P_l_right : List Str := ["_law_word_here", "_law_cuts_here", "_law_found", "_law_fellows"]
abbrev N_law : List Str := ["_law_script", "_law_cell", "_law_some", "_law_word_here", "_law_cuts_here", "_law_fellows", "_law_found"]
abbrev P_law : List Str := ["_law_script"]
def c_STEPS : List (Str × D) := [("e", .ktup (([1, 0] : List Int).map D.int)), ("n", .ktup (([0, 1] : List Int).map D.int)), ("w", .ktup (([-1, 0] : List Int).map D.int)), ("s", .ktup (([0, -1] : List Int).map D.int))]
/-! one step of a reading; "l3h": what stands in the heap; "l3a": a side's arithmetic; "l3c": a call by its specification; "l3": as far as it goes -/
local macro_rules | `(tactic| walk_at "l3h") => `(tactic| first
  | with_reducible exact upd3_same
  | assumption
  | exact upd3_old (by walk_at "l3h") (by assumption))
local macro_rules | `(tactic| walk_at "l3a") => `(tactic| first
  | with_reducible assumption
  | decide
  | omega
  | exact ⟨by decide, by decide⟩
  | exact Or.inl ⟨by decide, by decide⟩
  | exact Or.inr ⟨by decide, by decide⟩
  | exact ⟨by decide, by decide, by decide⟩
  | exact Or.inl ⟨by omega, by omega⟩
  | exact Or.inr ⟨by omega, by omega⟩
  | exact ⟨by omega, by omega⟩)
/-! "l3b": bits of a number; "l3w": a factor or divisor of some bits -/
local macro_rules | `(tactic| walk_at "l3b") => `(tactic| first
  | with_reducible assumption
  | ((with_reducible show Bt _ (_ + _)); exact Bt.add (by walk_at "l3b") (by walk_at "l3b"))
  | ((with_reducible show Bt _ (_ - _)); exact Bt.sub (by walk_at "l3b") (by walk_at "l3b"))
  | ((with_reducible show Bt _ (_ * _)); exact Bt.mul (by walk_at "l3b") (by walk_at "l3b"))
  | ((with_reducible show Bt _ (-_)); exact Bt.neg (by walk_at "l3b"))
  | ((with_reducible show Bt _ (_ / _)); exact Bt.div (by walk_at "l3b"))
  | exact Bt.lit (n := 64) (by decide)
  | exact Bt.lit (n := 256) (by decide))
local macro_rules | `(tactic| walk_at "l3w") => `(tactic| first
  | ((with_reducible show CDivW _ _); exact And.intro (by walk_at "l3a") (Bt.mono (by walk_at "l3b") (by decide)))
  | exact Or.inl (by walk_at "l3a")
  | exact CMulW.of (by walk_at "l3b") (by walk_at "l3b") (by decide))
local macro_rules | `(tactic| walk_at "l3s") => `(tactic| first
  | with_reducible refine g_sq ?_
  | ((with_reducible show v3 _ _ _ _); refine g_v3 rfl ?_)
  | with_reducible refine g_c3 ?_
  | with_reducible refine g_o3 ?_
  | with_reducible refine g_st ?_
  | ((with_reducible refine g_gone ?_); (try dsimp only [List.set_cons_zero, List.set_cons_succ]))
  | with_reducible refine g_goneR ?_
  | ((fail_if_success (with_reducible show Ends3.nx (fin3 _) _ _)); (with_reducible refine g_nx ?_); (try dsimp only [List.set_cons_zero, List.set_cons_succ]))
  | with_reducible refine g_cb ?_
  | with_reducible refine g_cons ?_
  | with_reducible refine g_nil ?_
  | with_reducible refine g_is ?_
  | with_reducible refine g_ts ?_
  | with_reducible refine g_bt ?_
  | with_reducible refine g_rt3 ?_
  | ((fail_if_success (with_reducible show Ends3.rt (fin3 _) _ _)); with_reducible refine g_rt ?_)
  | with_reducible refine g_tp ?_
  | ((with_reducible show List.length _ ≤ 1000 ∧ _); refine g_and rfl ?_)
  | with_reducible refine g_add ?_
  | with_reducible refine g_sub ?_
  | with_reducible refine g_eqI ?_
  | with_reducible refine g_neI ?_
  | with_reducible refine g_eqP ?_
  | with_reducible refine g_neP ?_
  | with_reducible refine g_eqT3 ?_
  | with_reducible refine g_neT3 ?_
  | with_reducible refine g_le ?_
  | with_reducible refine g_lt ?_
  | with_reducible refine g_gt ?_
  | with_reducible refine g_ge ?_
  | with_reducible refine g_ltT ?_
  | with_reducible refine g_neg ?_
  | with_reducible refine g_u3 ?_
  | ((with_reducible show i3mul _ _ _ _); refine g_mul (by walk_at "l3a") ?_)
  | ((with_reducible show i3div _ _ _ _); refine g_div (by walk_at "l3a") ?_)
  | ((with_reducible show i3mulW _ _ _ _); refine g_mulW (by walk_at "l3w") ?_)
  | ((with_reducible show i3divW _ _ _ _); refine g_divW (by walk_at "l3w") ?_)
  | ((with_reducible show i3mod _ _ _ _); refine g_mod (by walk_at "l3a") ?_)
  | ((with_reducible show i3pow _ _ _ _); refine g_pow (by walk_at "l3a") ?_)
  | ((with_reducible show r3ix (D.tup _) (D.int _) _ _); refine g_ixT rfl ?_)
  | with_reducible refine g_an ?_
  | with_reducible refine g_or ?_
  | with_reducible refine g_no ?_
  | with_reducible refine g_av ?_
  | with_reducible refine g_avk ?_
  | with_reducible refine g_ov ?_
  | with_reducible refine g_ovk ?_
  | with_reducible refine g_nv ?_
  | with_reducible refine g_nvk ?_
  | with_reducible refine g_if3 ?_
  | with_reducible refine g_isN ?_
  | with_reducible refine g_notN ?_
  | with_reducible refine g_ls ?_
  | with_reducible refine g_lenT ?_
  | with_reducible refine g_lenF ?_
  | ((with_reducible show r3len [D.ref _] _ _); refine g_lenL (by walk_at "l3h") ?_)
  | with_reducible refine g_tupT ?_
  | ((with_reducible show r3tuple [D.ref _] _ _); refine g_tupL (by walk_at "l3h") ?_)
  | with_reducible refine g_listT ?_
  | ((with_reducible show r3list [D.ref _] _ _); refine g_listL (by walk_at "l3h") ?_)
  | with_reducible refine g_sl ?_
  | with_reducible refine g_np ?_
  | with_reducible refine g_pt ?_
  | with_reducible refine g_ptk ?_
  | with_reducible refine g_slF ?_
  | ((with_reducible show r3sl (D.ref _) _ _ _ _); refine g_slL (by walk_at "l3h") ?_)
  | with_reducible refine g_nx3 ?_
  | with_reducible refine g_br3 ?_
  | with_reducible refine g_co3 ?_
  | with_reducible refine g_dr ?_
  | with_reducible refine g_rn3 ?_
  | with_reducible refine g_as ?_
  | ((with_reducible refine g_gn ?_); (try dsimp only [List.set_cons_zero, List.set_cons_succ]))
  | ((with_reducible refine g_g2 ?_); (try dsimp only [List.set_cons_zero, List.set_cons_succ]))
  | ((with_reducible refine g_g3 ?_); (try dsimp only [List.set_cons_zero, List.set_cons_succ]))
  | with_reducible refine g_bk ?_
  | with_reducible refine g_ct ?_
  | with_reducible refine g_fo ?_
  | with_reducible refine g_ir1 ?_
  | with_reducible refine g_ir2 ?_
  | with_reducible refine g_rg1 ?_
  | with_reducible refine g_rg2 ?_
  | with_reducible refine g_il ?_
  | ((with_reducible show ilk (D.ref _) _ _); refine g_ilR (by walk_at "l3h") ?_)
  | with_reducible refine g_ilF ?_
  | with_reducible refine g_it ?_
  | with_reducible refine g_itT ?_
  | ((with_reducible show au3 _ _ _ _ _ _); refine g_au rfl ?_)
  | with_reducible refine g_iadd ?_
  | with_reducible refine g_isub ?_
  | with_reducible refine g_max2 ?_
  | with_reducible refine g_ikd ?_
  | with_reducible refine g_irv ?_
  | with_reducible refine g_kd ?_
  | ((with_reducible show r3ix (D.ktup _) (D.int _) _ _); refine g_ixK rfl ?_)
  | with_reducible refine g_pr ?_
  | with_reducible refine g_rvl ?_
  | ((with_reducible show rvk (D.ref _) _ _); refine g_rvk (by walk_at "l3h") ?_)
  | with_reducible refine g_izp ?_
  | with_reducible refine g_ien ?_
  | ((with_reducible show enk (D.ref _) _ _); refine g_enk (by walk_at "l3h") ?_)
  | with_reducible refine g_intB ?_
  | with_reducible refine g_cbE ?_
  | with_reducible refine g_rz ?_
  | with_reducible refine g_try ?_
  | with_reducible refine g_isx3 ?_
  | ((with_reducible show isxk _ (D.ref _) _ _); refine g_isxk (by walk_at "l3h") rfl ?_)
  | with_reducible refine g_trA ?_
  | with_reducible refine g_sxE ?_
  | with_reducible refine g_sxS ?_
  | with_reducible refine g_fd ?_
  | ((with_reducible show r3fld _ _ (D.ref _) _ _); refine g_fld (by walk_at "l3h") (by decide) rfl ?_)
  | with_reducible refine g_sfa ?_
  | ((with_reducible show r3sf _ _ _ (D.ref _) _ _); refine g_sf (by walk_at "l3h") (by decide) (by decide) ?_)
  | with_reducible refine g_me ?_
  | ((with_reducible show r3meth _ _ (D.ref _) _ _); refine g_meth (by walk_at "l3h") rfl rfl ?_)
  | with_reducible refine g_mk ?_
  | with_reducible refine g_izt ?_
  | with_reducible refine g_itz ?_
  | with_reducible refine g_mz ?_
  | with_reducible refine g_mzk ?_
  | with_reducible refine g_iz ?_
  | with_reducible refine g_izS ?_
  | with_reducible refine g_m3 ?_
  | ((with_reducible show mtk _ _ _ (D.ref _) _ _); refine g_mtk (by walk_at "l3h") ?_)
  | with_reducible refine g_dg ?_
  | with_reducible refine g_lz ?_
  | with_reducible refine g_dp ?_
  | with_reducible refine g_dn ?_
  | with_reducible refine g_dd ?_
  | with_reducible refine g_so ?_
  | with_reducible refine g_eqB ?_
  | with_reducible refine g_cp ?_
  | with_reducible refine g_yes ?_
  | ((with_reducible show r3isi [_, D.ty _] _ _); refine g_isi rfl (by simp [kinds]) ?_)
  | walk_at "l3c")
local macro_rules | `(tactic| walk_at "l3") => `(tactic| repeat walk_at "l3s")
/-! words of the four letters -/
abbrev Lt := Fin 4
def cp (l : Lt) : Nat := match l with
  | 0 => 101
  | 1 => 110
  | 2 => 119
  | 3 => 115
def step (l : Lt) : Pt := match l with
  | 0 => (1, 0)
  | 1 => (0, 1)
  | 2 => (-1, 0)
  | 3 => (0, -1)
def lt1 (l : Lt) : Str := ⟨#[cp l]⟩
def wStr (ls : List Lt) : Str := ⟨(ls.map cp).toArray⟩
theorem lets_w (ls : List Lt) : lets (wStr ls) = ls.map fun l => D.str (lt1 l) := by
  unfold lets wStr lt1; rw [List.toList_toArray, List.map_map]; rfl
theorem wStr_len (ls : List Lt) : (wStr ls).length = ls.length := by
  show (ls.map cp).toArray.size = _; rw [List.size_toArray, List.length_map]
theorem cp_inj : ∀ {a b : Lt}, cp a = cp b → a = b := by decide
theorem wStr_inj {as bs : List Lt} (h : wStr as = wStr bs) : as = bs := by
  have e : as.map cp = bs.map cp := by
    have := congrArg (fun z : Str => z.cps.toList) h
    simpa [wStr] using this
  exact (List.map_inj_right fun a b hab => cp_inj hab).mp e
def adp (s p : Pt) : Pt := (p.1 + s.1, p.2 + s.2)
def endp (c : Pt) (ls : List Lt) : Pt := ls.foldl (fun p l => adp (step l) p) c
def path (c : Pt) (ls : List Lt) : List Pt := (List.range (ls.length + 1)).map fun i => endp c (ls.take i)
theorem endp_snoc (c : Pt) (ls : List Lt) (l : Lt) : endp c (ls ++ [l]) = adp (step l) (endp c ls) := by unfold endp; rw [List.foldl_append]; rfl
theorem endp_app (c : Pt) (as bs : List Lt) : endp c (as ++ bs) = endp (endp c as) bs := by unfold endp; rw [List.foldl_append]
theorem path_len (c : Pt) (ls : List Lt) : (path c ls).length = ls.length + 1 := by unfold path; simp
theorem path_snoc (c : Pt) (ls : List Lt) (l : Lt) : path c (ls ++ [l]) = path c ls ++ [adp (step l) (endp c ls)] := by
  unfold path
  rw [List.length_append, List.length_singleton, List.range_succ (n := ls.length + 1), List.map_append]
  congr 1
  · refine List.map_congr_left fun i hi => ?_
    rw [List.mem_range] at hi
    rw [List.take_append_of_le_length (by omega)]
  · rw [List.map_singleton, List.take_of_length_le (by simp), endp_snoc]
theorem path_get (c : Pt) (ls : List Lt) (i : Nat) : (path c ls)[i]? = if i ≤ ls.length then some (endp c (ls.take i)) else none := by
  unfold path
  rw [List.getElem?_map]
  split
  · rw [List.getElem?_range (by omega)]; rfl
  · rw [List.getElem?_eq_none (by rw [List.length_range]; omega)]; rfl
theorem path_app (c : Pt) (as bs : List Lt) : path c (as ++ bs) = (path c as).dropLast ++ path (endp c as) bs := by
  refine List.ext_getElem? fun i => ?_
  rw [path_get, List.length_append]
  have hl : (path c as).dropLast.length = as.length := by rw [List.length_dropLast, path_len]; rfl
  by_cases h : i < as.length
  · rw [if_pos (by omega), List.getElem?_append_left (by omega), List.getElem?_dropLast, if_pos (by rw [path_len]; omega), path_get, if_pos (by omega), List.take_append_of_le_length (by omega)]
  · rw [List.getElem?_append_right (by omega), hl, path_get]
    by_cases h2 : i ≤ as.length + bs.length
    · rw [if_pos h2, if_pos (by omega), ← endp_app, List.take_append, List.take_of_length_le (by omega)]
    · rw [if_neg h2, if_neg (by omega)]
/-- at the end -/
theorem path_last (c : Pt) (ls : List Lt) : atI ((path c ls).map prP) (-1) = some (.tup [.int (endp c ls).1, .int (endp c ls).2]) := by
  unfold atI ixN
  rw [List.length_map, path_len, if_neg (by omega), if_pos (by omega), Option.bind_some, List.getElem?_map, show (-1 + ((ls.length + 1 : Nat) : Int)).toNat = ls.length from by omega, path_get, if_pos (Nat.le_refl _), List.take_length]
  rfl
theorem wStr_app (as bs : List Lt) : wStr as ++ wStr bs = wStr (as ++ bs) := by
  show (⟨(as.map cp).toArray ++ (bs.map cp).toArray⟩ : Str) = ⟨_⟩
  congr 1
  rw [List.map_append]; simp
theorem path_pop (c : Pt) (ls : List Lt) : ((path c ls).map prP)[((path c ls).map prP).length - 1]? = some (prP (endp c ls)) := by
  rw [List.length_map, path_len, List.getElem?_map, Nat.add_sub_cancel, path_get, if_pos (Nat.le_refl _), List.take_length]; rfl
theorem path_cut (c : Pt) (ls : List Lt) : cut3 ((path c ls).map prP) none (some (-1)) = (path c ls).dropLast.map prP := by
  rw [cut3_map]
  congr 1
  have e : path c ls = (path c ls).dropLast ++ [endp c ls] := by
    refine List.ext_getElem? fun i => ?_
    have hl : (path c ls).dropLast.length = ls.length := by rw [List.length_dropLast, path_len]; rfl
    by_cases h : i < ls.length
    · rw [List.getElem?_append_left (by omega), List.getElem?_dropLast, if_pos (by rw [path_len]; omega)]
    · rw [List.getElem?_append_right (by omega), hl, path_get]
      by_cases h2 : i = ls.length
      · subst h2
        rw [if_pos (Nat.le_refl _), List.take_length, Nat.sub_self]; rfl
      · rw [if_neg (by omega), List.getElem?_eq_none (by simp; omega)]
  rw [e, List.dropLast_concat]
  exact cut3_init _ _
theorem g_addZ {y z : Str} {H : Hp3} {Q : VK3} (hl : y.length + z.length ≤ sizeLine) (q : Q (.str (y ++ z)) H) : r3add (.str y) (.str z) H Q := ⟨hl, q⟩
theorem g_ixZ {z : Str} {i : Int} {c : Nat} {H : Hp3} {Q : VK3} (hz : z.length ≤ sizeLine) (h : atI z.cps.toList i = some c) (q : Q (.str ⟨#[c]⟩) H) : r3ix (.str z) (.int i) H Q := by
  simp only [r3ix, h]; exact ⟨hz, q⟩
theorem cp_small (l : Lt) : cp l < 0x110000 := by revert l; decide
theorem strOk_w (ls : List Lt) : PyData.strOk (wStr ls) = true := by
  show (ls.map cp).toArray.all (· < 0x110000) = true
  rw [List.all_toArray, List.all_map, List.all_eq_true]
  intro l _
  exact decide_eq_true (cp_small l)
theorem pyH_w (H : Hp3) (ls : List Lt) : pyH H (.str (wStr ls)) = some (.str (wStr ls)) := by
  show (if PyData.strOk (wStr ls) = true then some (PyData.str (wStr ls)) else none) = _
  rw [if_pos (strOk_w ls)]
theorem eqv_w (as bs : List Lt) : PyData.eqv (.str (wStr as)) (.str (wStr bs)) = decide (as = bs) := by
  simp only [PyData.eqv]
  by_cases h : as = bs
  · subst h; simp
  · rw [decide_eq_false h]
    exact beq_eq_false_iff_ne.mpr fun z => h (wStr_inj z)
theorem g_eqW {as bs : List Lt} {H : Hp3} {Q : VK3} (q : Q (.bl (decide (as = bs))) H) : r3eq (.str (wStr as)) (.str (wStr bs)) H Q := by
  simp only [r3eq, pyH_w, eqv_w]; exact q
theorem g_neW {as bs : List Lt} {H : Hp3} {Q : VK3} (q : Q (.bl (!decide (as = bs))) H) : r3ne (.str (wStr as)) (.str (wStr bs)) H Q := by
  simp only [r3ne, pyH_w, eqv_w]; exact q
/-- the opposite letter; the word gone backwards -/
def opp (l : Lt) : Lt := match l with
  | 0 => 2
  | 1 => 3
  | 2 => 0
  | 3 => 1
def bk (ls : List Lt) : List Lt := (ls.map opp).reverse
theorem opp_opp (l : Lt) : opp (opp l) = l := by revert l; decide
theorem bk_bk (ls : List Lt) : bk (bk ls) = ls := by
  unfold bk
  rw [List.map_reverse, List.reverse_reverse, List.map_map, show opp ∘ opp = id from funext opp_opp, List.map_id]
theorem bk_app (as bs : List Lt) : bk (as ++ bs) = bk bs ++ bk as := by unfold bk; rw [List.map_append, List.reverse_append]
theorem bk_len (ls : List Lt) : (bk ls).length = ls.length := by unfold bk; rw [List.length_reverse, List.length_map]
theorem step_opp (l : Lt) (p : Pt) : adp (step (opp l)) (adp (step l) p) = p := by
  obtain ⟨x, y⟩ := p
  match l with
  | 0 => exact Prod.ext (by show x + 1 + -1 = x; omega) (by show y + 0 + 0 = y; omega)
  | 1 => exact Prod.ext (by show x + 0 + 0 = x; omega) (by show y + 1 + -1 = y; omega)
  | 2 => exact Prod.ext (by show x + -1 + 1 = x; omega) (by show y + 0 + 0 = y; omega)
  | 3 => exact Prod.ext (by show x + 0 + 0 = x; omega) (by show y + -1 + 1 = y; omega)
/-- the join of letters -/
theorem join_w {ls : List Lt} {a : Addr} {H : Hp3} {Q : VK3} (ha : H a = some (.lst (ls.map fun l => D.str (lt1 l)))) (hl : ls.length ≤ 1000) (q : Q (.str (wStr ls)) H) : r3join (.str (Str.ofString "")) [.ref a] H Q := by
  have ej : joinZ (Str.ofString "") (ls.map lt1) = wStr ls := by
    have := joinZ_lets (z := Str.ofString "") rfl (ls.map cp)
    rw [List.map_map] at this
    exact this
  refine g_join (ys := ls.map lt1) (by rw [ha, List.map_map]; rfl) ?_ (by rw [ej]; exact q)
  rw [List.map_map, List.length_map]
  have : (ls.map ((fun y : Str => y.cps.size) ∘ lt1)).sum = ls.length := by
    rw [show ((fun y : Str => y.cps.size) ∘ lt1) = fun _ => 1 from rfl, List.map_const', List.sum_replicate_nat]; omega
  rw [this, show (Str.ofString "").cps.size = 0 from rfl]
  omega
theorem wStr_le (ls : List Lt) (h : ls.length ≤ 1000) : (wStr ls).length ≤ sizeLine := by rw [wStr_len, sizeLine_n]; omega
theorem cut3_mapN {α β : Type} (xs : List α) (f : α → β) (lo hi : Option Int) : cut3 (xs.map f) lo hi = (cut3 xs lo hi).map f := by
  unfold cut3
  rw [List.length_map, ← List.map_drop, ← List.map_take]
theorem cut_take (ls : List Lt) (n : Nat) : cutZ (wStr ls) none (some (n : Int)) = wStr (ls.take n) := by
  unfold cutZ wStr
  rw [List.toList_toArray, cut3_mapN]
  congr 2
  unfold cut3 HT.sIx
  simp only []
  rw [if_neg (by omega), Int.toNat_natCast, List.drop_zero, Nat.sub_zero]
  by_cases h : n ≤ ls.length
  · rw [Nat.min_eq_left h]
  · rw [Nat.min_eq_right (by omega), List.take_length, List.take_of_length_le (by omega)]
theorem cut_drop (ls : List Lt) (n : Nat) : cutZ (wStr ls) (some (n : Int)) none = wStr (ls.drop n) := by
  unfold cutZ wStr
  rw [List.toList_toArray, cut3_mapN]
  congr 2
  unfold cut3 HT.sIx
  simp only []
  rw [if_neg (by omega), Int.toNat_natCast]
  by_cases h : n ≤ ls.length
  · rw [Nat.min_eq_left h, List.take_of_length_le (by rw [List.length_drop]; exact Nat.le_refl _)]
  · rw [Nat.min_eq_right (by omega), List.drop_length, List.drop_of_length_le (by omega)]; simp
/-! turns -/
def trn (k : Int) (p : Pt) : Pt :=
  let x' := if 4 ≤ k then -p.1 else p.1
  if k % 4 = 1 then (-p.2, x') else if k % 4 = 2 then (-x', -p.2) else if k % 4 = 3 then (p.2, -x') else (x', p.2)
def rot (q : Nat) (l : Lt) : Lt := match q with
  | 0 => l
  | 1 => l + 1
  | 2 => l + 2
  | _ => l + 3
def mir (l : Lt) : Lt := match l with
  | 0 => 2
  | 1 => 1
  | 2 => 0
  | 3 => 3
def tl (k : Int) (l : Lt) : Lt := rot (k % 4).toNat (if 4 ≤ k then mir l else l)
theorem k8 {k : Int} (h0 : 0 ≤ k) (h1 : k < 8) : k = 0 ∨ k = 1 ∨ k = 2 ∨ k = 3 ∨ k = 4 ∨ k = 5 ∨ k = 6 ∨ k = 7 := by omega
theorem step_tl {k : Int} (h0 : 0 ≤ k) (h1 : k < 8) (l : Lt) : step (tl k l) = trn k (step l) := by
  rcases k8 h0 h1 with rfl | rfl | rfl | rfl | rfl | rfl | rfl | rfl <;> (match l with | 0 => rfl | 1 => rfl | 2 => rfl | 3 => rfl)
theorem trn_adp (k : Int) (s p : Pt) : trn k (adp s p) = adp (trn k s) (trn k p) := by
  unfold trn adp
  dsimp only
  split <;> split <;> (try split) <;> (try split) <;> (apply Prod.ext <;> dsimp only <;> omega)
theorem endp_tl {k : Int} (h0 : 0 ≤ k) (h1 : k < 8) (c : Pt) (ls : List Lt) : endp (trn k c) (ls.map (tl k)) = trn k (endp c ls) := by
  induction ls generalizing c with
  | nil => rfl
  | cons l ls ih =>
    show endp (adp (step (tl k l)) (trn k c)) (ls.map (tl k)) = trn k (endp (adp (step l) c) ls)
    rw [step_tl h0 h1, ← trn_adp, ih]
theorem path_tl {k : Int} (h0 : 0 ≤ k) (h1 : k < 8) (c : Pt) (ls : List Lt) : path (trn k c) (ls.map (tl k)) = (path c ls).map (trn k) := by
  unfold path
  rw [List.length_map, List.map_map]
  refine List.map_congr_left fun i _ => ?_
  show endp (trn k c) ((ls.map (tl k)).take i) = trn k (endp c (ls.take i))
  rw [← List.map_take, endp_tl h0 h1]
theorem step_only (m : Lt) : (([0, 1, 2, 3] : List Lt).filter fun a => decide (step a = step m)) = [m] := by
  match m with
  | 0 => rfl
  | 1 => rfl
  | 2 => rfl
  | 3 => rfl
theorem endp_way (c : Pt) (ls : List Lt) : endp c ls = adp (endp (0, 0) ls) c := by
  induction ls generalizing c with
  | nil => exact Prod.ext (by show c.1 = c.1 + 0; omega) (by show c.2 = c.2 + 0; omega)
  | cons l ls ih =>
    show endp (adp (step l) c) ls = adp (endp (adp (step l) (0, 0)) ls) c
    rw [ih, ih (adp (step l) (0, 0))]
    exact Prod.ext (by show c.1 + (step l).1 + _ = c.1 + (0 + (step l).1 + _); omega) (by show c.2 + (step l).2 + _ = c.2 + (0 + (step l).2 + _); omega)
theorem g_eqKP {a b c d : Int} {H : Hp3} {Q : VK3} (q : Q (.bl (decide ((a, b) = (c, d)))) H) : r3eq (.ktup [.int a, .int b]) (.tup [.int c, .int d]) H Q := by
  have e : (PyData.eqvAll [.int a, .int b] [.int c, .int d]) = decide ((a, b) = (c, d)) := by
    simp only [PyData.eqvAll, PyData.eqv, Bool.and_true, Prod.mk.injEq, Bool.decide_and]; rfl
  simp only [r3eq, pyH, pyN, mapO, Option.map_some, PyData.eqv, e]; exact q
/-- begun at a place -/
def beg (ls : List Lt) (n : Nat) : List Lt := ls.drop n ++ ls.take n
theorem beg_len (ls : List Lt) (n : Nat) (h : n ≤ ls.length) : (beg ls n).length = ls.length := by unfold beg; rw [List.length_append, List.length_drop, List.length_take]; omega
theorem endp_beg (ls : List Lt) (n : Nat) : endp (0, 0) (beg ls n) = endp (0, 0) ls := by
  conv => rhs; rw [← List.take_append_drop n ls]
  unfold beg
  rw [endp_app, endp_app, endp_way, endp_way (endp (0, 0) (ls.take n))]
  exact Prod.ext (Int.add_comm _ _) (Int.add_comm _ _)
theorem g_lenW {ls : List Lt} {H : Hp3} {Q : VK3} (hl : ls.length ≤ 1000) (q : Q (.int ls.length) H) : r3len [.str (wStr ls)] H Q := ⟨wStr_le ls hl, by rw [wStr_len]; exact q⟩
theorem path_head (c : Pt) (ls : List Lt) : atI ((path c ls).map prP) 0 = some (.tup [.int c.1, .int c.2]) := by
  unfold atI ixN
  rw [List.length_map, path_len, if_pos (by omega), if_pos (by omega), Option.bind_some, List.getElem?_map, path_get, if_pos (by omega)]
  rfl

def sp_added : Sp3 := fun ds H Q => match ds with
  | [.tup [.int a, .int b], .tup [.int c, .int d]] => Q (.tup [.int (a + c), .int (b + d)]) H
  | [.tup [.int a, .int b], .ktup [.int c, .int d]] => Q (.tup [.int (a + c), .int (b + d)]) H
  | _ => False
theorem u_added {a b c d : Int} {H : Hp3} {Q : VK3} (h : Q (.tup [.int (a + c), .int (b + d)]) H) : sp_added [.tup [.int a, .int b], .tup [.int c, .int d]] H Q := h
theorem u_addedK {a b c d : Int} {H : Hp3} {Q : VK3} (h : Q (.tup [.int (a + c), .int (b + d)]) H) : sp_added [.tup [.int a, .int b], .ktup [.int c, .int d]] H Q := h
local macro_rules | `(tactic| walk_at "l3c") => `(tactic| first | (with_reducible refine u_added ?_) | (with_reducible refine u_addedK ?_))
theorem len_added : ∀ (ds : List D) (H : Hp3) (Q : VK3), sp_added ds H Q → ds.length = P_added.length := by
  intro ds H Q h
  unfold sp_added at h
  split at h
  · rfl
  · rfl
  · exact h.elim

def t_added : TS3 := (rt3 (tp3 (cons3 (o3 r3add (o3 r3ix (v3 0) (c3 (.int 0))) (o3 r3ix (v3 1) (c3 (.int 0)))) (cons3 (o3 r3add (o3 r3ix (v3 0) (c3 (.int 1))) (o3 r3ix (v3 1) (c3 (.int 1)))) nil3))))
theorem rd_added : ∀ (ds : List D) (H : Hp3) (Q : VK3), sp_added ds H Q → t_added (fin3 Q) (start3 N_added ds) H := by
  intro ds H Q h
  unfold sp_added at h
  split at h
  case h_3 => exact h.elim
  · simp only [t_added, start3, N_added, List.map_cons, List.map_nil, List.length_cons, List.length_nil, Nat.reduceAdd, Nat.reduceSub, Nat.zero_add, List.replicate, List.cons_append, List.nil_append]
    walk_at "l3"
    exact g_fin h Sub3.refl
  · simp only [t_added, start3, N_added, List.map_cons, List.map_nil, List.length_cons, List.length_nil, Nat.reduceAdd, Nat.reduceSub, Nat.zero_add, List.replicate, List.cons_append, List.nil_append]
    walk_at "l3"
    exact g_fin h Sub3.refl

def sp_taken : Sp3 := fun ds H Q => match ds with
  | [.tup [.int a, .int b], .tup [.int c, .int d]] => Q (.tup [.int (a - c), .int (b - d)]) H
  | _ => False
theorem u_taken {a b c d : Int} {H : Hp3} {Q : VK3} (h : Q (.tup [.int (a - c), .int (b - d)]) H) : sp_taken [.tup [.int a, .int b], .tup [.int c, .int d]] H Q := h
local macro_rules | `(tactic| walk_at "l3c") => `(tactic| (with_reducible refine u_taken ?_))
theorem len_taken : ∀ (ds : List D) (H : Hp3) (Q : VK3), sp_taken ds H Q → ds.length = P_taken.length := by
  intro ds H Q h
  unfold sp_taken at h
  split at h
  · rfl
  · exact h.elim

def t_taken : TS3 := (rt3 (tp3 (cons3 (o3 i3sub (o3 r3ix (v3 0) (c3 (.int 0))) (o3 r3ix (v3 1) (c3 (.int 0)))) (cons3 (o3 i3sub (o3 r3ix (v3 0) (c3 (.int 1))) (o3 r3ix (v3 1) (c3 (.int 1)))) nil3))))
theorem rd_taken : ∀ (ds : List D) (H : Hp3) (Q : VK3), sp_taken ds H Q → t_taken (fin3 Q) (start3 N_taken ds) H := by
  intro ds H Q h
  unfold sp_taken at h
  split at h
  case h_2 => exact h.elim
  simp only [t_taken, start3, N_taken, List.map_cons, List.map_nil, List.length_cons, List.length_nil, Nat.reduceAdd, Nat.reduceSub, Nat.zero_add, List.replicate, List.cons_append, List.nil_append]
  walk_at "l3"
  exact g_fin h Sub3.refl

def ends (cs : List Int) (L : Int) : List Int := cs.drop 1 ++ [cs.headD 0 + L]
def spn (cs : List Int) (L : Int) : List (Int × Int) := cs.zip (ends cs L)
theorem ends_len {cs : List Int} {L : Int} (h : cs ≠ []) : (ends cs L).length = cs.length := by
  unfold ends
  rw [List.length_append, List.length_drop, List.length_singleton]
  have := List.length_pos_iff.mpr h
  omega
theorem spn_len {cs : List Int} {L : Int} (h : cs ≠ []) : (spn cs L).length = cs.length := by
  unfold spn
  rw [List.length_zip, ends_len h, Nat.min_self]
theorem atI_0 {cs : List Int} (h : cs ≠ []) : atI (cs.map D.int) 0 = some (.int (cs.headD 0)) := by
  cases cs with
  | nil => exact absurd rfl h
  | cons c cs =>
    unfold atI ixN
    rw [List.length_map, List.length_cons, if_pos (by omega), if_pos (by omega), Option.bind_some]
    rfl
theorem cut3_1 {α : Type} (xs : List α) (h : xs ≠ []) : cut3 xs (some 1) none = xs.drop 1 := by
  unfold cut3 HT.sIx
  simp only []
  have := List.length_pos_iff.mpr h
  rw [if_neg (by omega), show min (Int.toNat 1) xs.length = 1 from by omega, List.take_of_length_le (by rw [List.length_drop]; omega)]
/-- cuts: two or three, rising, below h -/
structure Cts (cs : List Int) (h : Int) : Prop where
  len : cs.length = 2 ∨ cs.length = 3
  srt : cs.Pairwise (· < ·)
  rng : ∀ c ∈ cs, 0 ≤ c ∧ c < h
theorem Cts.ne {cs : List Int} {h : Int} (c : Cts cs h) : cs ≠ [] := by intro z; have := c.len; rw [z] at this; simp at this
/-- each span: from below the next, none longer than h -/
theorem Cts.spn {cs : List Int} {h : Int} (c : Cts cs h) : ∀ s ∈ spn cs h, 0 ≤ s.1 ∧ s.1 < s.2 ∧ s.2 < h + h ∧ s.1 < h := by
  obtain ⟨hl, hs, hr⟩ := c
  intro s hm
  rcases cs with _ | ⟨a, _ | ⟨b, _ | ⟨d, _ | _⟩⟩⟩ <;> simp at hl
  · have ha := hr a (by simp)
    have hb := hr b (by simp)
    simp only [List.pairwise_cons, List.mem_cons, List.not_mem_nil, or_false, forall_eq] at hs
    simp only [Law.spn, ends, List.drop_succ_cons, List.drop_zero, List.cons_append, List.nil_append, List.headD_cons, List.zip_cons_cons, List.zip_nil_right, List.mem_cons, List.not_mem_nil, or_false] at hm
    rcases hm with rfl | rfl
    · exact ⟨ha.1, hs.1, by omega, ha.2⟩
    · exact ⟨hb.1, by dsimp only; omega, by dsimp only; omega, hb.2⟩
  · have ha := hr a (by simp)
    have hb := hr b (by simp)
    have hd := hr d (by simp)
    simp only [List.pairwise_cons, List.mem_cons, List.not_mem_nil, or_false, forall_eq_or_imp, forall_eq] at hs
    simp only [Law.spn, ends, List.drop_succ_cons, List.drop_zero, List.cons_append, List.nil_append, List.headD_cons, List.zip_cons_cons, List.zip_nil_right, List.mem_cons, List.not_mem_nil, or_false] at hm
    rcases hm with rfl | rfl | rfl
    · exact ⟨ha.1, hs.1.1, by dsimp only; omega, ha.2⟩
    · exact ⟨hb.1, hs.2.1, by dsimp only; omega, hb.2⟩
    · exact ⟨hd.1, by dsimp only; omega, by dsimp only; omega, hd.2⟩
def sp_spans_of : Sp3 := fun ds H Q => match ds with
  | [.str z, .tup xs] => ∃ (W : List Lt) (cs : List Int), (z = wStr W ∧ xs = cs.map D.int ∧ W.length ≤ 500 ∧ cs ≠ [] ∧ cs.length ≤ 10) ∧ ∀ p, H p = none → Q (.ref p) (upd3 H p (.lst ((spn cs ((W.length : Int) / 2)).map prP)))
  | _ => False
theorem u_spans_of {W : List Lt} {cs : List Int} {H : Hp3} {Q : VK3} (hl : W.length ≤ 500) (hn : cs ≠ []) (hc : cs.length ≤ 10) (h : ∀ p, H p = none → Q (.ref p) (upd3 H p (.lst ((spn cs ((W.length : Int) / 2)).map prP)))) : sp_spans_of [.str (wStr W), .tup (cs.map D.int)] H Q := ⟨W, cs, ⟨rfl, rfl, hl, hn, hc⟩, h⟩
theorem len_spans_of : ∀ (ds : List D) (H : Hp3) (Q : VK3), sp_spans_of ds H Q → ds.length = P_spans_of.length := by
  intro ds H Q h
  unfold sp_spans_of at h
  split at h
  · rfl
  · exact h.elim

def t_spans_of : TS3 := (sq3 (st3 2 (o3 r3add (cb3 r3list (cons3 (sl3 r3slT (v3 1) (pt3 (c3 (.int 1))) np3) nil3)) (ls3 (cons3 (o3 r3add (o3 r3ix (v3 1) (c3 (.int 0))) (o3 i3divW (cb3 r3len (cons3 (v3 0) nil3)) (c3 (.int 2)))) nil3))))
    (rt3 (lz3 (v3 1) (v3 2))))
theorem rd_spans_of : ∀ (ds : List D) (H : Hp3) (Q : VK3), sp_spans_of ds H Q → t_spans_of (fin3 Q) (start3 N_spans_of ds) H := by
  intro ds H Q h
  unfold sp_spans_of at h
  split at h
  case h_2 => exact h.elim
  obtain ⟨W, cs, ⟨rfl, rfl, hl, hn, hc⟩, h⟩ := h
  have hp := List.length_pos_iff.mpr hn
  simp only [t_spans_of, start3, N_spans_of, List.map_cons, List.map_nil, List.length_cons, List.length_nil, Nat.reduceAdd, Nat.reduceSub, Nat.zero_add, List.replicate, List.cons_append, List.nil_append]
  walk_at "l3"
  refine g_slT (by rw [List.length_map]; unfold HT.sIx; simp only []; rw [if_neg (by omega)]; intro z; have := z.1; omega) ?_
  rw [cut3_map, cut3_1 _ hn]
  walk_at "l3"
  intro p1 hp1
  walk_at "l3"
  refine g_ixT (atI_0 hn) ?_
  walk_at "l3"
  refine g_lenW (by omega) ?_
  walk_at "l3"
  intro p2 hp2
  walk_at "l3"
  have ee : (cs.drop 1).map D.int ++ [D.int (cs.headD 0 + (W.length : Int) / 2)] = (ends cs ((W.length : Int) / 2)).map D.int := by unfold ends; rw [List.map_append]; rfl
  refine g_cat (upd3_old upd3_same hp2) upd3_same (by rw [List.length_map, List.length_drop, sizeLine_n]; show _ + 1 ≤ _; omega) fun p3 hp3 => ?_
  rw [ee]
  walk_at "l3"
  refine g_lzk upd3_same (by rw [List.length_map]; omega) fun p4 hp4 => ?_
  have s2 := (Sub3.fresh (o := .lst ((cs.drop 1).map D.int)) hp1).trans (Sub3.fresh (o := .lst [D.int (cs.headD 0 + (W.length : Int) / 2)]) hp2)
  have s3 := s2.trans (Sub3.fresh (o := .lst ((ends cs ((W.length : Int) / 2)).map D.int)) hp3)
  have h0 : H p4 = none := sub_back s3 hp4
  rw [zipD_map]
  exact g_fin (h p4 h0) (sub_upd (s3.upd h0) upd3_same)

def cat (ns : List Int) (k : Nat) : Int := if k < ns.length then ns.getD k 0 else if ns.length = 0 then 0 else ns.getD (k % ns.length) 0 * (48271 + (k : Int) * (k : Int)) % 1000003
def sp_l_cell_at : Sp3 := fun ds H Q => match ds with
  | [.fl xs, .int k] => (match intsOf xs with
    | some ns => (0 ≤ k ∧ k < 100000 ∧ ns.length ≤ 63) ∧ Q (.int (cat ns k.toNat)) H
    | none => False)
  | _ => False
theorem u_l_cell_at {ns : List Int} {k : Int} {H : Hp3} {Q : VK3} (hk : 0 ≤ k) (hk1 : k < 100000) (hl : ns.length ≤ 63) (h : Q (.int (cat ns k.toNat)) H) : sp_l_cell_at [.fl (ns.map D.int), .int k] H Q := by
  simp only [sp_l_cell_at, intsOf_map]; exact ⟨⟨hk, hk1, hl⟩, h⟩
local macro_rules | `(tactic| walk_at "l3c") => `(tactic| ((with_reducible show sp_l_cell_at _ _ _); refine u_l_cell_at (by walk_at "l3a") (by walk_at "l3a") (by assumption) ?_))
theorem len_l_cell_at : ∀ (ds : List D) (H : Hp3) (Q : VK3), sp_l_cell_at ds H Q → ds.length = P_l_cell_at.length := by
  intro ds H Q h
  unfold sp_l_cell_at at h
  split at h
  · rfl
  · exact h.elim

def t_l_cell_at : TS3 := (sq3 (is3 (ts3 (o3 r3lt (v3 1) (cb3 r3len (cons3 (v3 0) nil3)))) (rt3 (o3 r3ix (v3 0) (v3 1))) nx3)
    (sq3 (is3 (ts3 (o3 r3eq (cb3 r3len (cons3 (v3 0) nil3)) (c3 (.int 0)))) (rt3 (c3 (.int 0))) nx3)
    (rt3 (o3 i3mod (o3 i3mulW (o3 r3ix (v3 0) (o3 i3mod (v3 1) (cb3 r3len (cons3 (v3 0) nil3)))) (o3 r3add (c3 (.int 48271)) (o3 i3mulW (v3 1) (v3 1)))) (c3 (.int 1000003))))))
theorem rd_l_cell_at : ∀ (ds : List D) (H : Hp3) (Q : VK3), sp_l_cell_at ds H Q → t_l_cell_at (fin3 Q) (start3 N_l_cell_at ds) H := by
  intro ds H Q h
  unfold sp_l_cell_at at h
  split at h
  case h_2 => exact h.elim
  rename_i xs k
  split at h
  case h_2 => exact h.elim
  rename_i ns e
  have e' := intsOf_inv e
  subst e'
  obtain ⟨⟨hk, hk1, hns⟩, h⟩ := h
  obtain ⟨n, rfl⟩ := Int.eq_ofNat_of_zero_le hk
  rw [Int.toNat_natCast] at h
  simp only [t_l_cell_at, start3, N_l_cell_at, List.map_cons, List.map_nil, List.length_cons, List.length_nil, Nat.reduceAdd, Nat.reduceSub, Nat.zero_add, List.replicate, List.cons_append, List.nil_append]
  unfold cat at h
  walk_at "l3"
  rw [List.length_map]
  refine ifD (fun hlt => ?_) fun hlt => ?_
  · have hl : n < ns.length := by omega
    rw [if_pos hl] at h
    have ha : atI (ns.map D.int) (n : Int) = some (.int (ns.getD n 0)) := by
      rw [atI_map (by omega) (by rw [Int.toNat_natCast]; exact hl)]
      simp only [Int.toNat_natCast, List.getD_eq_getElem?_getD, List.getElem?_eq_getElem hl]; rfl
    walk_at "l3"
    refine g_ixF ha ?_
    walk_at "l3"
    exact g_fin h Sub3.refl
  · have hl : ¬ n < ns.length := by omega
    rw [if_neg hl] at h
    walk_at "l3"
    rw [List.length_map]
    refine ifD (fun h0 => ?_) fun h0 => ?_
    · walk_at "l3"
      rw [if_pos (by omega)] at h
      exact g_fin h Sub3.refl
    · rw [if_neg (by omega)] at h
      have hp : (0 : Int) < ns.length := by omega
      have hm : n % ns.length < ns.length := Nat.mod_lt _ (by omega)
      walk_at "l3"
      rw [List.length_map]
      refine g_mod hp ?_
      have ha : atI (ns.map D.int) ((n : Int) % (ns.length : Int)) = some (.int (ns.getD (n % ns.length) 0)) := by
        rw [← Int.natCast_emod, atI_map (by omega) (by rw [Int.toNat_natCast]; exact hm)]
        simp only [Int.toNat_natCast, List.getD_eq_getElem?_getD, List.getElem?_eq_getElem hm]; rfl
      refine g_ixF ha ?_
      walk_at "l3"
      have hq : (n : Int) * (n : Int) ≤ 100000 * 100000 := Int.mul_le_mul (by omega) (by omega) (by omega) (by omega)
      have hq0 : 0 ≤ (n : Int) * (n : Int) := Int.mul_nonneg (by omega) (by omega)
      refine g_mulW (.inl (.inr ⟨by omega, by omega⟩)) ?_
      walk_at "l3"
      exact g_fin h Sub3.refl

def sp_l_step : Sp3 := fun ds H Q => match ds with
  | [.str z] => ∃ l : Lt, z = lt1 l ∧ Q (.tup [.int (step l).1, .int (step l).2]) H
  | _ => False
theorem u_l_step (l : Lt) {H : Hp3} {Q : VK3} (h : Q (.tup [.int (step l).1, .int (step l).2]) H) : sp_l_step [.str (lt1 l)] H Q := ⟨l, rfl, h⟩
theorem enws_at (l : Lt) : firstAt "enws" (lt1 l) = some l.val := by
  match l with
  | 0 => rfl
  | 1 => rfl
  | 2 => rfl
  | 3 => rfl
theorem step_at (l : Lt) : atI [D.tup [.int 1, .int 0], .tup [.int 0, .int 1], .tup [.int (-1), .int 0], .tup [.int 0, .int (-1)]] (l.val : Int) = some (.tup [.int (step l).1, .int (step l).2]) := by
  match l with
  | 0 => rfl
  | 1 => rfl
  | 2 => rfl
  | 3 => rfl
theorem len_l_step : ∀ (ds : List D) (H : Hp3) (Q : VK3), sp_l_step ds H Q → ds.length = P_l_step.length := by
  intro ds H Q h
  unfold sp_l_step at h
  split at h
  · rfl
  · exact h.elim

def t_l_step : TS3 := (rt3 (o3 r3ix (ls3 (cons3 (tp3 (cons3 (c3 (.int 1)) (cons3 (c3 (.int 0)) nil3))) (cons3 (tp3 (cons3 (c3 (.int 0)) (cons3 (c3 (.int 1)) nil3))) (cons3 (tp3 (cons3 (u3 r3neg (c3 (.int 1))) (cons3 (c3 (.int 0)) nil3))) (cons3 (tp3 (cons3 (c3 (.int 0)) (cons3 (u3 r3neg (c3 (.int 1))) nil3))) nil3))))) (mz3 r3index (c3 (.str "enws")) (cons3 (v3 0) nil3))))
theorem rd_l_step : ∀ (ds : List D) (H : Hp3) (Q : VK3), sp_l_step ds H Q → t_l_step (fin3 Q) (start3 N_l_step ds) H := by
  intro ds H Q h
  unfold sp_l_step at h
  split at h
  case h_2 => exact h.elim
  rename_i z
  obtain ⟨l, rfl, h⟩ := h
  simp only [t_l_step, start3, N_l_step, List.map_cons, List.map_nil, List.length_cons, List.length_nil, Nat.reduceAdd, Nat.reduceSub, Nat.zero_add, List.replicate, List.cons_append, List.nil_append]
  walk_at "l3"
  intro p hp
  walk_at "l3"
  refine g_index (enws_at l) ?_
  walk_at "l3"
  refine g_ixL upd3_same (step_at l) ?_
  walk_at "l3"
  exact g_fin h (Sub3.fresh hp)

def sp_l_whole : Sp3 := fun ds H Q => match ds with
  | [.int _] => Q (.bl true) H
  | _ => False
theorem u_l_whole {i : Int} {H : Hp3} {Q : VK3} (h : Q (.bl true) H) : sp_l_whole [.int i] H Q := h
local macro_rules | `(tactic| walk_at "l3c") => `(tactic| (with_reducible refine u_l_whole ?_))
theorem len_l_whole : ∀ (ds : List D) (H : Hp3) (Q : VK3), sp_l_whole ds H Q → ds.length = P_l_whole.length := by
  intro ds H Q h
  unfold sp_l_whole at h
  split at h
  · rfl
  · exact h.elim

def t_l_whole : TS3 := (rt3 (av3 (cb3 r3isi (cons3 (v3 0) (cons3 (c3 (.ty "int")) nil3))) (nv3 (cb3 r3isi (cons3 (v3 0) (cons3 (c3 (.ty "bool")) nil3))))))
theorem rd_l_whole : ∀ (ds : List D) (H : Hp3) (Q : VK3), sp_l_whole ds H Q → t_l_whole (fin3 Q) (start3 N_l_whole ds) H := by
  intro ds H Q h
  unfold sp_l_whole at h
  split at h
  case h_2 => exact h.elim
  simp only [t_l_whole, start3, N_l_whole, List.map_cons, List.map_nil, List.length_cons, List.length_nil, Nat.reduceAdd, Nat.reduceSub, Nat.zero_add, List.replicate, List.cons_append, List.nil_append]
  walk_at "l3"
  refine ifY rfl ?_
  walk_at "l3"
  exact g_fin h Sub3.refl

def sp_l_back : Sp3 := fun ds H Q => match ds with
  | [.str z] => ∃ ls : List Lt, (z = wStr ls ∧ ls.length ≤ 500) ∧ Q (.str (wStr (bk ls))) H
  | _ => False
theorem u_l_back (ls : List Lt) {H : Hp3} {Q : VK3} (hl : ls.length ≤ 500) (h : Q (.str (wStr (bk ls))) H) : sp_l_back [.str (wStr ls)] H Q := ⟨ls, ⟨rfl, hl⟩, h⟩
theorem enws_first (l : Lt) : firstAt "enws" (lt1 l) = some l.val := by
  match l with
  | 0 => rfl
  | 1 => rfl
  | 2 => rfl
  | 3 => rfl
theorem wsen_ix (l : Lt) : atI (Str.ofString "wsen").cps.toList (l.val : Int) = some (cp (opp l)) := by
  match l with
  | 0 => rfl
  | 1 => rfl
  | 2 => rfl
  | 3 => rfl
theorem len_l_back : ∀ (ds : List D) (H : Hp3) (Q : VK3), sp_l_back ds H Q → ds.length = P_l_back.length := by
  intro ds H Q h
  unfold sp_l_back at h
  split at h
  · rfl
  · exact h.elim

def lp_l_back_0 : TS3 := fo3 (iz3 (v3 0)) (gn3 2) (st3 1 (o3 r3add (o3 r3ix (c3 (.str "wsen")) (mz3 r3index (c3 (.str "enws")) (cons3 (v3 2) nil3))) (v3 1)))
def t_l_back : TS3 := (sq3 (st3 1 (c3 (.str "")))
    (sq3 lp_l_back_0
    (rt3 (v3 1))))
theorem rd_l_back : ∀ (ds : List D) (H : Hp3) (Q : VK3), sp_l_back ds H Q → t_l_back (fin3 Q) (start3 N_l_back ds) H := by
  intro ds H Q h
  unfold sp_l_back at h
  split at h
  case h_2 => exact h.elim
  rename_i z
  obtain ⟨ls, ⟨rfl, hl⟩, h⟩ := h
  simp only [t_l_back, start3, N_l_back, List.map_cons, List.map_nil, List.length_cons, List.length_nil, Nat.reduceAdd, Nat.reduceSub, Nat.zero_add, List.replicate, List.cons_append, List.nil_append]
  walk_at "l3"
  unfold lp_l_back_0
  walk_at "l3"
  rw [lets_w]
  refine Lp.by (fun i σ H2 => H2 = H ∧ ∃ c, σ = [some (.str (wStr ls)), some (.str (wStr (bk (ls.take i)))), c]) ⟨rfl, _, rfl⟩ (fun _ _ _ _ _ => trivial) ?_ ?_
  · rintro i d σ H2 hd ⟨rfl, c, rfl⟩
    rw [List.getElem?_map, Option.map_eq_some_iff] at hd
    obtain ⟨l, hl2, rfl⟩ := hd
    walk_at "l3"
    refine g_index (enws_first l) ?_
    walk_at "l3"
    refine g_ixZ (by rw [sizeLine_n]; decide) (wsen_ix l) ?_
    walk_at "l3"
    refine g_addZ (by rw [wStr_len, bk_len, List.length_take, sizeLine_n]; show 1 + _ ≤ _; omega) ?_
    have ht : ls.take (i + 1) = ls.take i ++ [l] := by rw [List.take_add_one, hl2]; rfl
    have e : (⟨#[cp (opp l)]⟩ : Str) ++ wStr (bk (ls.take i)) = wStr (bk (ls.take (i + 1))) := by
      rw [ht, bk_app]
      exact wStr_app [opp l] _
    rw [e]
    walk_at "l3"
    exact ⟨rfl, _, rfl⟩
  · rintro σ H2 ⟨rfl, c, rfl⟩
    rw [List.length_map, List.take_of_length_le (Nat.le_refl _)]
    walk_at "l3"
    exact g_fin h Sub3.refl

theorem lt_of_perm {ms ns : List Int} (hp : ms.Perm ns) (hn : ns.Nodup) (hw : ms.Pairwise (· ≤ ·)) : ms.Pairwise (· < ·) := by
  have nd : ms.Nodup := hp.nodup_iff.mpr hn
  have := List.Pairwise.and hw nd
  exact this.imp fun {a b} h => by have h1 := h.1; have h2 : a ≠ b := h.2; omega
def sp_l_cuts : Sp3 := fun ds H Q => match ds with
  | [.int c, .int h] => (2 ≤ h ∧ h ≤ 500) ∧ ∀ cs, Cts cs h → Q (.tup (cs.map D.int)) H
  | _ => False
theorem u_l_cuts {c h : Int} {H : Hp3} {Q : VK3} (h0 : 2 ≤ h) (h1 : h ≤ 500) (q : ∀ cs, Cts cs h → Q (.tup (cs.map D.int)) H) : sp_l_cuts [.int c, .int h] H Q := ⟨⟨h0, h1⟩, q⟩
theorem cts_of {ns ms : List Int} {h : Int} (hl : ns.length = 2 ∨ ns.length = 3) (hn : ns.Nodup) (hr : ∀ c ∈ ns, 0 ≤ c ∧ c < h) (hp : ms.Perm ns) (hw : ms.Pairwise (· ≤ ·)) : Cts ms h :=
  ⟨by rw [hp.length_eq]; exact hl, lt_of_perm hp hn hw, fun c hc => hr c (hp.mem_iff.mp hc)⟩
theorem second_ne {x k h : Int} (h0 : 0 ≤ x) (h1 : x < h) (k0 : 0 ≤ k) (k1 : k < h - 1) : (x + 1 + k) % h ≠ x := by
  by_cases z : x + 1 + k < h
  · rw [Int.emod_eq_of_lt (by omega) z]; omega
  · have : (x + 1 + k) % h = x + 1 + k - h := by rw [← Int.sub_emod_right, Int.emod_eq_of_lt (by omega) (by omega)]
    omega
theorem mapO_ints : ∀ ns : List Int, mapO (pyN 4) (ns.map D.int) = some (ns.map PyData.int)
  | [] => rfl
  | n :: ns => by
    have e : pyN 4 (D.int n) = some (.int n) := rfl
    simp only [List.map_cons, mapO, e, mapO_ints ns]
theorem any_ints (i : Int) : ∀ ns : List Int, ((ns.map PyData.int).any fun q => PyData.eqv q (.int i)) = decide (i ∈ ns)
  | [] => rfl
  | n :: ns => by
    rw [List.map_cons, List.any_cons, any_ints i ns]
    have e : PyData.eqv (.int n) (.int i) = decide (n = i) := by simp only [PyData.eqv]; rfl
    rw [e]
    by_cases z : n = i
    · subst z; simp
    · have z' : ¬ i = n := fun y => z y.symm
      simp [z, z']
theorem g_ninI {ns : List Int} {i : Int} {y : D} {H : Hp3} {Q : VK3} (h : seqH H y = some (ns.map D.int)) (q : Q (.bl (!decide (i ∈ ns))) H) : r3inX true (.int i) y H Q := by
  refine .inl ?_
  have e : pyN 4 (D.int i) = some (.int i) := rfl
  simp only [r3in, e, h, Option.bind_some, mapO_ints, any_ints, if_true]
  exact q
theorem len_l_cuts : ∀ (ds : List D) (H : Hp3) (Q : VK3), sp_l_cuts ds H Q → ds.length = P_l_cuts.length := by
  intro ds H Q h
  unfold sp_l_cuts at h
  split at h
  · rfl
  · exact h.elim

def t_l_cuts : TS3 := (sq3 (st3 2 (o3 i3mod (v3 0) (v3 1)))
    (sq3 (st3 3 (ls3 (cons3 (v3 2) (cons3 (o3 i3mod (o3 r3add (o3 r3add (v3 2) (c3 (.int 1))) (o3 i3mod (o3 i3divW (v3 0) (c3 (.int 60))) (o3 i3sub (v3 1) (c3 (.int 1))))) (v3 1)) nil3))))
    (sq3 (st3 4 (o3 i3mod (o3 i3divW (v3 0) (c3 (.int 3600))) (v3 1)))
    (sq3 (is3 (an3 (ts3 (o3 r3eq (o3 i3mod (o3 i3divW (v3 0) (c3 (.int 216000))) (c3 (.int 2))) (c3 (.int 1)))) (ts3 (o3 (r3inX true) (v3 4) (v3 3)))) (dr3 (m3 r3app (v3 3) (cons3 (v3 4) nil3))) nx3)
    (rt3 (cb3 r3tuple (cons3 (cb3 r3sortI (cons3 (v3 3) nil3)) nil3)))))))
theorem rd_l_cuts : ∀ (ds : List D) (H : Hp3) (Q : VK3), sp_l_cuts ds H Q → t_l_cuts (fin3 Q) (start3 N_l_cuts ds) H := by
  intro ds H Q h
  unfold sp_l_cuts at h
  split at h
  case h_2 => exact h.elim
  rename_i c hf
  obtain ⟨⟨h0, h1⟩, h⟩ := h
  have m0 := Int.emod_nonneg c (b := hf) (by omega)
  have m1 := Int.emod_lt_of_pos c (b := hf) (by omega)
  have t0 := Int.emod_nonneg (c / 3600) (b := hf) (by omega)
  have t1 := Int.emod_lt_of_pos (c / 3600) (b := hf) (by omega)
  have k0 := Int.emod_nonneg (c / 60) (b := hf - 1) (by omega)
  have k1 := Int.emod_lt_of_pos (c / 60) (b := hf - 1) (by omega)
  have s0 := Int.emod_nonneg (c % hf + 1 + c / 60 % (hf - 1)) (b := hf) (by omega)
  have s1 := Int.emod_lt_of_pos (c % hf + 1 + c / 60 % (hf - 1)) (b := hf) (by omega)
  have sn := second_ne m0 m1 k0 k1
  simp only [t_l_cuts, start3, N_l_cuts, List.map_cons, List.map_nil, List.length_cons, List.length_nil, Nat.reduceAdd, Nat.reduceSub, Nat.zero_add, List.replicate, List.cons_append, List.nil_append]
  walk_at "l3"
  intro p hp
  generalize hx : c % hf = x at *
  generalize hy : (x + 1 + c / 60 % (hf - 1)) % hf = y at *
  generalize hz : c / 3600 % hf = z at *
  have last : ∀ (ns : List Int), (ns.length = 2 ∨ ns.length = 3) → ns.Nodup → (∀ c ∈ ns, 0 ≤ c ∧ c < hf) → (rt3 (cb3 r3tuple (cons3 (cb3 r3sortI (cons3 (v3 3) nil3)) nil3))) (fin3 Q) [some (.int c), some (.int hf), some (.int x), some (.ref p), some (.int z)] (upd3 H p (.lst (ns.map D.int))) := by
    intro ns hl hn hr
    walk_at "l3"
    refine g_sortI upd3_same (by omega) fun ms p2 hpm hw hp2 => ?_
    walk_at "l3"
    exact g_fin (h ms (cts_of hl hn hr hpm hw)) ((Sub3.fresh hp).trans (Sub3.fresh hp2))
  have two : (rt3 (cb3 r3tuple (cons3 (cb3 r3sortI (cons3 (v3 3) nil3)) nil3))) (fin3 Q) [some (.int c), some (.int hf), some (.int x), some (.ref p), some (.int z)] (upd3 H p (.lst [D.int x, D.int y])) :=
    last [x, y] (.inl rfl) (by simp; exact fun e => sn e.symm) fun d hd => by
      rcases List.mem_cons.mp hd with rfl | hd
      · exact ⟨m0, m1⟩
      · rw [List.mem_singleton.mp hd]; exact ⟨s0, s1⟩
  walk_at "l3"
  rw [hz]
  refine ifD (fun _ => ?_) fun _ => ?_
  · walk_at "l3"
    refine g_ninI (ns := [x, y]) (seq_ref upd3_same) ?_
    refine g_bt ?_
    refine ifN (fun nz => ?_) fun _ => ?_
    · walk_at "l3"
      refine g_app upd3_same (by rw [sizeLine_n]; show 2 < _; omega) ?_
      rw [upd3_upd3]
      walk_at "l3"
      refine last [x, y, z] (.inr rfl) ?_ fun d hd => ?_
      · simp only [List.mem_cons, List.not_mem_nil, or_false, not_or] at nz
        simp only [List.nodup_cons, List.mem_cons, List.not_mem_nil, or_false, not_or, not_false_eq_true, List.nodup_nil, and_true]
        exact ⟨⟨fun e => sn e.symm, fun e => nz.1 e.symm⟩, fun e => nz.2 e.symm⟩
      · simp only [List.mem_cons, List.not_mem_nil, or_false] at hd
        rcases hd with rfl | rfl | rfl
        · exact ⟨m0, m1⟩
        · exact ⟨s0, s1⟩
        · exact ⟨t0, t1⟩
    · walk_at "l3"
      exact two
  · walk_at "l3"
    exact two

def sp_corners_of : Sp3 := fun ds H Q => match ds with
  | [.tup [.int x, .int y], .str z] => ∃ ls : List Lt, (z = wStr ls ∧ ls.length ≤ 500) ∧ ∀ p, H p = none → Q (.ref p) (upd3 H p (.lst ((path (x, y) ls).map prP)))
  | _ => False
theorem u_corners_of {x y : Int} (ls : List Lt) {H : Hp3} {Q : VK3} (hl : ls.length ≤ 500) (h : ∀ p, H p = none → Q (.ref p) (upd3 H p (.lst ((path (x, y) ls).map prP)))) : sp_corners_of [.tup [.int x, .int y], .str (wStr ls)] H Q := ⟨ls, ⟨rfl, hl⟩, h⟩
theorem steps_at (l : Lt) : c_STEPS.lookup (lt1 l) = some (.ktup [.int (step l).1, .int (step l).2]) := by
  revert l; intro l; match l with
  | 0 => rfl
  | 1 => rfl
  | 2 => rfl
  | 3 => rfl
theorem len_corners_of : ∀ (ds : List D) (H : Hp3) (Q : VK3), sp_corners_of ds H Q → ds.length = P_corners_of.length := by
  intro ds H Q h
  unfold sp_corners_of at h
  split at h
  · rfl
  · exact h.elim

def lp_corners_of_0 : TS3 := fo3 (iz3 (v3 1)) (gn3 3) (dr3 (m3 r3app (v3 2) (cons3 (cb3 sp_added (cons3 (o3 r3ix (v3 2) (u3 r3neg (c3 (.int 1)))) (cons3 (kd3 c_STEPS (v3 3)) nil3))) nil3)))
def t_corners_of : TS3 := (sq3 (st3 2 (ls3 (cons3 (v3 0) nil3)))
    (sq3 lp_corners_of_0
    (rt3 (v3 2))))
theorem rd_corners_of : ∀ (ds : List D) (H : Hp3) (Q : VK3), sp_corners_of ds H Q → t_corners_of (fin3 Q) (start3 N_corners_of ds) H := by
  intro ds H Q h
  unfold sp_corners_of at h
  split at h
  case h_2 => exact h.elim
  rename_i x y z
  obtain ⟨ls, ⟨rfl, hl⟩, h⟩ := h
  simp only [t_corners_of, start3, N_corners_of, List.map_cons, List.map_nil, List.length_cons, List.length_nil, Nat.reduceAdd, Nat.reduceSub, Nat.zero_add, List.replicate, List.cons_append, List.nil_append]
  walk_at "l3"
  intro p hp
  walk_at "l3"
  unfold lp_corners_of_0
  walk_at "l3"
  rw [lets_w]
  refine Lp.by (fun i σ H2 => H2 = upd3 H p (.lst ((path (x, y) (ls.take i)).map prP)) ∧ ∃ c, σ = [some (.tup [.int x, .int y]), some (.str (wStr ls)), some (.ref p), c]) ⟨by rw [List.take_zero]; rfl, _, rfl⟩ (fun _ _ _ _ _ => trivial) ?_ ?_
  · rintro i d σ H2 hd ⟨rfl, c, rfl⟩
    rw [List.getElem?_map, Option.map_eq_some_iff] at hd
    obtain ⟨l, hl2, rfl⟩ := hd
    walk_at "l3"
    refine g_ixL upd3_same (path_last _ _) ?_
    walk_at "l3"
    refine g_kdk (steps_at l) ?_
    walk_at "l3"
    refine g_app upd3_same (small1000' (by rw [List.length_map, path_len, List.length_take]; omega)) ?_
    rw [upd3_upd3]
    walk_at "l3"
    have ht : ls.take (i + 1) = ls.take i ++ [l] := by rw [List.take_add_one, hl2]; rfl
    refine ⟨?_, _, rfl⟩
    rw [ht, path_snoc, List.map_append]
    rfl
  · rintro σ H2 ⟨rfl, c, rfl⟩
    rw [List.length_map, List.take_of_length_le (Nat.le_refl _)]
    walk_at "l3"
    exact g_fin (h p hp) Sub3.refl

def sp_l_pair : Sp3 := fun ds H Q => match ds with
  | [.tup [.int a, .int b], .tup [.int c, .int d]] => Q (.bl (decide ((a, b) = (c, d)))) H
  | _ => False
theorem u_l_pair {a b c d : Int} {H : Hp3} {Q : VK3} (h : Q (.bl (decide ((a, b) = (c, d)))) H) : sp_l_pair [.tup [.int a, .int b], .tup [.int c, .int d]] H Q := h
local macro_rules | `(tactic| walk_at "l3c") => `(tactic| (with_reducible refine u_l_pair ?_))
theorem len_l_pair : ∀ (ds : List D) (H : Hp3) (Q : VK3), sp_l_pair ds H Q → ds.length = P_l_pair.length := by
  intro ds H Q h
  unfold sp_l_pair at h
  split at h
  · rfl
  · exact h.elim

def t_l_pair : TS3 := (sq3 (is3 (or3 (no3 (ts3 (cb3 r3isi (cons3 (v3 0) (cons3 (c3 (.ty "tuple")) nil3))))) (ts3 (o3 r3ne (cb3 r3len (cons3 (v3 0) nil3)) (c3 (.int 2))))) (rt3 (c3 (.bl false))) nx3)
    (rt3 (av3 (cb3 sp_l_whole (cons3 (o3 r3ix (v3 0) (c3 (.int 0))) nil3)) (av3 (cb3 sp_l_whole (cons3 (o3 r3ix (v3 0) (c3 (.int 1))) nil3)) (o3 r3eq (v3 0) (v3 1))))))
theorem rd_l_pair : ∀ (ds : List D) (H : Hp3) (Q : VK3), sp_l_pair ds H Q → t_l_pair (fin3 Q) (start3 N_l_pair ds) H := by
  intro ds H Q h
  unfold sp_l_pair at h
  split at h
  case h_2 => exact h.elim
  simp only [t_l_pair, start3, N_l_pair, List.map_cons, List.map_nil, List.length_cons, List.length_nil, Nat.reduceAdd, Nat.reduceSub, Nat.zero_add, List.replicate, List.cons_append, List.nil_append]
  walk_at "l3"
  refine ifX rfl ?_
  walk_at "l3"
  refine ifN (fun z => absurd rfl z) fun _ => ?_
  walk_at "l3"
  refine ifY rfl ?_
  walk_at "l3"
  refine ifY rfl ?_
  walk_at "l3"
  exact g_fin h Sub3.refl

def sp_l_path : Sp3 := fun ds H Q => match ds with
  | [.tup [.int x, .int y], .str z] => ∃ ls : List Lt, (z = wStr ls ∧ ls.length ≤ 500) ∧ ∀ p, H p = none → Q (.ref p) (upd3 H p (.lst ((path (x, y) ls).map prP)))
  | _ => False
theorem u_l_path {x y : Int} (ls : List Lt) {H : Hp3} {Q : VK3} (hl : ls.length ≤ 500) (h : ∀ p, H p = none → Q (.ref p) (upd3 H p (.lst ((path (x, y) ls).map prP)))) : sp_l_path [.tup [.int x, .int y], .str (wStr ls)] H Q := ⟨ls, ⟨rfl, hl⟩, h⟩
theorem len_l_path : ∀ (ds : List D) (H : Hp3) (Q : VK3), sp_l_path ds H Q → ds.length = P_l_path.length := by
  intro ds H Q h
  unfold sp_l_path at h
  split at h
  · rfl
  · exact h.elim

def lp_l_path_0 : TS3 := fo3 (iz3 (v3 1)) (gn3 3) (sq3 (st3 4 (cb3 sp_l_step (cons3 (v3 3) nil3)))
    (dr3 (m3 r3app (v3 2) (cons3 (tp3 (cons3 (o3 r3add (o3 r3ix (o3 r3ix (v3 2) (u3 r3neg (c3 (.int 1)))) (c3 (.int 0))) (o3 r3ix (v3 4) (c3 (.int 0)))) (cons3 (o3 r3add (o3 r3ix (o3 r3ix (v3 2) (u3 r3neg (c3 (.int 1)))) (c3 (.int 1))) (o3 r3ix (v3 4) (c3 (.int 1)))) nil3))) nil3))))
def t_l_path : TS3 := (sq3 (st3 2 (ls3 (cons3 (v3 0) nil3)))
    (sq3 lp_l_path_0
    (rt3 (v3 2))))
theorem rd_l_path : ∀ (ds : List D) (H : Hp3) (Q : VK3), sp_l_path ds H Q → t_l_path (fin3 Q) (start3 N_l_path ds) H := by
  intro ds H Q h
  unfold sp_l_path at h
  split at h
  case h_2 => exact h.elim
  rename_i x y z
  obtain ⟨ls, ⟨rfl, hl⟩, h⟩ := h
  simp only [t_l_path, start3, N_l_path, List.map_cons, List.map_nil, List.length_cons, List.length_nil, Nat.reduceAdd, Nat.reduceSub, Nat.zero_add, List.replicate, List.cons_append, List.nil_append]
  walk_at "l3"
  intro p hp
  walk_at "l3"
  unfold lp_l_path_0
  walk_at "l3"
  rw [lets_w]
  refine Lp.by (fun i σ H2 => H2 = upd3 H p (.lst ((path (x, y) (ls.take i)).map prP)) ∧ ∃ c d, σ = [some (.tup [.int x, .int y]), some (.str (wStr ls)), some (.ref p), c, d]) ⟨by rw [List.take_zero]; rfl, _, _, rfl⟩ (fun _ _ _ _ _ => trivial) ?_ ?_
  · rintro i d σ H2 hd ⟨rfl, c, e, rfl⟩
    rw [List.getElem?_map, Option.map_eq_some_iff] at hd
    obtain ⟨l, hl2, rfl⟩ := hd
    walk_at "l3"
    refine u_l_step l ?_
    walk_at "l3"
    refine g_ixL upd3_same (path_last _ _) ?_
    walk_at "l3"
    refine g_ixL upd3_same (path_last _ _) ?_
    walk_at "l3"
    refine g_app upd3_same (small1000' (by rw [List.length_map, path_len, List.length_take]; omega)) ?_
    rw [upd3_upd3]
    walk_at "l3"
    have ht : ls.take (i + 1) = ls.take i ++ [l] := by rw [List.take_add_one, hl2]; rfl
    refine ⟨?_, _, _, rfl⟩
    rw [ht, path_snoc, List.map_append]
    rfl
  · rintro σ H2 ⟨rfl, c, e, rfl⟩
    rw [List.length_map, List.take_of_length_le (Nat.le_refl _)]
    walk_at "l3"
    exact g_fin (h p hp) Sub3.refl

def sp_l_word : Sp3 := fun ds H Q => match ds with
  | [.fl xs, .int a, .int n] => (match intsOf xs with
    | some ns => (0 ≤ a ∧ a < 1000 ∧ 0 ≤ n ∧ n ≤ 200 ∧ ns.length ≤ 63) ∧ ∀ ls : List Lt, (ls.length : Int) = n → Q (.str (wStr ls)) H
    | none => False)
  | _ => False
theorem u_l_word {ns : List Int} {a n : Int} {H : Hp3} {Q : VK3} (h0 : 0 ≤ a) (h1 : a < 1000) (h2 : 0 ≤ n) (h3 : n ≤ 200) (hl : ns.length ≤ 63) (h : ∀ ls : List Lt, (ls.length : Int) = n → Q (.str (wStr ls)) H) : sp_l_word [.fl (ns.map D.int), .int a, .int n] H Q := by
  simp only [sp_l_word, intsOf_map]; exact ⟨⟨h0, h1, h2, h3, hl⟩, h⟩
/-- a letter by a number -/
def ltOf (c : Int) : Lt := match (c % 4).toNat with
  | 0 => 0
  | 1 => 1
  | 2 => 2
  | _ => 3
theorem enws_ix (c : Int) : atI (Str.ofString "enws").cps.toList (c % 4) = some (cp (ltOf c)) := by
  have : c % 4 = 0 ∨ c % 4 = 1 ∨ c % 4 = 2 ∨ c % 4 = 3 := by omega
  unfold ltOf
  rcases this with e | e | e | e <;> rw [e] <;> rfl
theorem len_l_word : ∀ (ds : List D) (H : Hp3) (Q : VK3), sp_l_word ds H Q → ds.length = P_l_word.length := by
  intro ds H Q h
  unfold sp_l_word at h
  split at h
  · rfl
  · exact h.elim

def t_l_word : TS3 := (rt3 (mz3 r3join (c3 (.str "")) (cons3 (cp3 (ir1 (v3 2)) (gn3 0) yes3 (o3 r3ix (c3 (.str "enws")) (o3 i3mod (cb3 sp_l_cell_at (cons3 (v3 1) (cons3 (o3 r3add (v3 2) (v3 0)) nil3))) (c3 (.int 4)))) ["_law_k"] [(0, "_law_script"), (1, "_law_at")]) nil3)))
theorem rd_l_word : ∀ (ds : List D) (H : Hp3) (Q : VK3), sp_l_word ds H Q → t_l_word (fin3 Q) (start3 N_l_word ds) H := by
  intro ds H Q h
  unfold sp_l_word at h
  split at h
  case h_2 => exact h.elim
  rename_i xs a n
  split at h
  case h_2 => exact h.elim
  rename_i ns e
  have e' := intsOf_inv e
  subst e'
  obtain ⟨⟨h0, h1, h2, h3, hns⟩, h⟩ := h
  obtain ⟨m, rfl⟩ := Int.eq_ofNat_of_zero_le h2
  simp only [t_l_word, start3, N_l_word, List.map_cons, List.map_nil, List.length_cons, List.length_nil, Nat.reduceAdd, Nat.reduceSub, Nat.zero_add, List.replicate, List.cons_append, List.nil_append]
  walk_at "l3"
  rw [Int.toNat_natCast]
  refine Cp.rng (fun k => .str (lt1 (ltOf (cat ns (a + (k : Int)).toNat)))) (by omega) ?_ ?_
  · intro k hk R H2 hs hR
    rw [Int.zero_add]
    walk_at "l3"
    refine g_ixZ (by rw [sizeLine_n]; decide) (enws_ix _) ?_
    exact hR H2 Sub3.refl
  intro p hp
  walk_at "l3"
  have ej : joinZ (Str.ofString "") ((List.range m).map fun k : Nat => lt1 (ltOf (cat ns (a + (k : Int)).toNat))) = wStr ((List.range m).map fun k : Nat => ltOf (cat ns (a + (k : Int)).toNat)) := by
    have := joinZ_lets (z := Str.ofString "") rfl (((List.range m).map fun k : Nat => ltOf (cat ns (a + (k : Int)).toNat)).map cp)
    rw [List.map_map, List.map_map] at this
    exact this
  refine g_join (ys := (List.range m).map fun k : Nat => lt1 (ltOf (cat ns (a + (k : Int)).toNat))) (by rw [upd3_same, List.map_map]; rfl) ?_ ?_
  · rw [List.map_map, List.length_map, List.length_range]
    have : ((List.range m).map ((fun y : Str => y.cps.size) ∘ fun k : Nat => lt1 (ltOf (cat ns (a + (k : Int)).toNat)))).sum = m := by
      rw [show ((fun y : Str => y.cps.size) ∘ fun k : Nat => lt1 (ltOf (cat ns (a + (k : Int)).toNat))) = fun _ => 1 from rfl, List.map_const', List.sum_replicate_nat, List.length_range]; omega
    rw [this]
    have : (Str.ofString "").cps.size = 0 := rfl
    rw [this]
    omega
  rw [ej]
  exact g_fin (h _ (by rw [List.length_map, List.length_range])) (Sub3.fresh hp)

def sp_l_letters : Sp3 := fun ds H Q => match ds with
  | [.fl xs, .int a, .int n, .str z] => (match intsOf xs with
    | some ns => ∃ m : List Lt, (z = wStr m ∧ m ≠ [] ∧ m.length ≤ 10 ∧ 0 ≤ a ∧ a < 1000 ∧ 0 ≤ n ∧ n ≤ 20 ∧ ns.length ≤ 63) ∧ ∀ w : List Lt, (w.length : Int) = n → Q (.str (wStr w)) H
    | none => False)
  | _ => False
theorem u_l_letters {ns : List Int} {a n : Int} (m : List Lt) {z : Str} {H : Hp3} {Q : VK3} (hz : z = wStr m) (hm : m ≠ []) (hm1 : m.length ≤ 10) (a0 : 0 ≤ a) (a1 : a < 1000) (n0 : 0 ≤ n) (n1 : n ≤ 20) (hl : ns.length ≤ 63) (h : ∀ w : List Lt, (w.length : Int) = n → Q (.str (wStr w)) H) : sp_l_letters [.fl (ns.map D.int), .int a, .int n, .str z] H Q := by
  simp only [sp_l_letters, intsOf_map]; exact ⟨m, ⟨hz, hm, hm1, a0, a1, n0, n1, hl⟩, h⟩
theorem atW {m : List Lt} {i : Int} (h0 : 0 ≤ i) (h1 : i < m.length) : ∃ l, atI (wStr m).cps.toList i = some (cp l) := by
  have e : (wStr m).cps.toList = m.map cp := by unfold wStr; rw [List.toList_toArray]
  refine ⟨m[i.toNat]'(by omega), ?_⟩
  rw [e]
  unfold atI ixN
  rw [List.length_map, if_pos h0, if_pos h1, Option.bind_some, List.getElem?_map, List.getElem?_eq_getElem (by omega)]; rfl
theorem atW_last {m : List Lt} (h : m ≠ []) : ∃ l, atI (wStr m).cps.toList (-1) = some (cp l) := by
  have e : (wStr m).cps.toList = m.map cp := by unfold wStr; rw [List.toList_toArray]
  have hp := List.length_pos_iff.mpr h
  refine ⟨m[m.length - 1]'(by omega), ?_⟩
  rw [e]
  unfold atI ixN
  rw [List.length_map, if_neg (by omega), if_pos (by omega), Option.bind_some, List.getElem?_map, show (-1 + (m.length : Int)).toNat = m.length - 1 from by omega, List.getElem?_eq_getElem (by omega)]; rfl
theorem len_l_letters : ∀ (ds : List D) (H : Hp3) (Q : VK3), sp_l_letters ds H Q → ds.length = P_l_letters.length := by
  intro ds H Q h
  unfold sp_l_letters at h
  split at h
  · rfl
  · exact h.elim

def lp_l_letters_0 : TS3 := fo3 (ir1 (v3 2)) (gn3 5) (sq3 (st3 6 (o3 r3ix (v3 3) (o3 i3mod (cb3 sp_l_cell_at (cons3 (v3 0) (cons3 (o3 r3add (v3 1) (v3 5)) nil3))) (cb3 r3len (cons3 (v3 3) nil3)))))
    (sq3 (is3 (an3 (ts3 (o3 r3ne (v3 4) (c3 (.str "")))) (ts3 (o3 r3eq (v3 6) (cb3 sp_l_back (cons3 (o3 r3ix (v3 4) (u3 r3neg (c3 (.int 1)))) nil3))))) (st3 6 (o3 r3ix (v3 3) (c3 (.int 0)))) nx3)
    (st3 4 (o3 r3add (v3 4) (v3 6)))))
def t_l_letters : TS3 := (sq3 (st3 4 (c3 (.str "")))
    (sq3 lp_l_letters_0
    (rt3 (v3 4))))
theorem rd_l_letters : ∀ (ds : List D) (H : Hp3) (Q : VK3), sp_l_letters ds H Q → t_l_letters (fin3 Q) (start3 N_l_letters ds) H := by
  intro ds H Q h
  unfold sp_l_letters at h
  split at h
  case h_2 => exact h.elim
  rename_i xs a n z
  split at h
  case h_2 => exact h.elim
  rename_i ns e
  have e' := intsOf_inv e
  subst e'
  obtain ⟨m, ⟨rfl, hm, hm1, a0, a1, n0, n1, hl⟩, h⟩ := h
  have hp := List.length_pos_iff.mpr hm
  simp only [t_l_letters, start3, N_l_letters, List.map_cons, List.map_nil, List.length_cons, List.length_nil, Nat.reduceAdd, Nat.reduceSub, Nat.zero_add, List.replicate, List.cons_append, List.nil_append]
  walk_at "l3"
  unfold lp_l_letters_0
  walk_at "l3"
  refine Lp.rng (fun i σ H2 => H2 = H ∧ ∃ w : List Lt, ∃ x y, w.length = i ∧ σ = [some (.fl (ns.map D.int)), some (.int a), some (.int n), some (.str (wStr m)), some (.str (wStr w)), x, y]) ⟨rfl, [], _, _, rfl, rfl⟩ ?_ ?_
  · rintro i σ H2 hi ⟨rfl, w, x, y, hw, rfl⟩
    rw [Int.zero_add]
    have last : ∀ (l : Lt) (q : Option D), (st3 4 (o3 r3add (v3 4) (v3 6))) { (fin3 Q) with nx := fun σ H3 => H3 = H2 ∧ ∃ w : List Lt, ∃ x y, w.length = i + 1 ∧ σ = [some (.fl (ns.map D.int)), some (.int a), some (.int n), some (.str (wStr m)), some (.str (wStr w)), x, y] }
        [some (.fl (ns.map D.int)), some (.int a), some (.int n), some (.str (wStr m)), some (.str (wStr w)), q, some (.str (lt1 l))] H2 := by
      intro l q
      walk_at "l3"
      refine g_addZ (by rw [wStr_len, sizeLine_n]; show _ + 1 ≤ _; omega) ?_
      rw [show wStr w ++ lt1 l = wStr (w ++ [l]) from by rw [← wStr_app]; rfl]
      walk_at "l3"
      exact ⟨rfl, _, _, _, by rw [List.length_append, hw]; rfl, rfl⟩
    walk_at "l3"
    refine g_lenW (by omega) ?_
    refine g_mod (by omega) ?_
    obtain ⟨l, el⟩ := atW (m := m) (i := cat ns (a + (i : Int)).toNat % (m.length : Int)) (Int.emod_nonneg _ (by omega)) (Int.emod_lt_of_pos _ (by omega))
    refine g_ixZ (wStr_le m (by omega)) el ?_
    walk_at "l3"
    refine g_neW (bs := []) ?_
    refine g_bt ?_
    refine ifN (fun hwn => ?_) fun hwn => ?_
    · obtain ⟨l2, el2⟩ := atW_last hwn
      walk_at "l3"
      refine g_ixZ (wStr_le w (by omega)) el2 ?_
      walk_at "l3"
      refine u_l_back [l2] (by show 1 ≤ 500; omega) ?_
      walk_at "l3"
      refine g_eqW (as := [l]) ?_
      walk_at "l3"
      refine ifD (fun _ => ?_) fun _ => ?_
      · obtain ⟨l3, el3⟩ := atW (m := m) (i := 0) (by omega) (by omega)
        walk_at "l3"
        refine g_ixZ (wStr_le m (by omega)) el3 ?_
        walk_at "l3"
        exact last l3 _
      · walk_at "l3"
        exact last l _
    · walk_at "l3"
      exact last l _
  · rintro σ H2 ⟨rfl, w, x, y, hw, rfl⟩
    walk_at "l3"
    exact g_fin (h w (by omega)) Sub3.refl

/-- the letters from c to below p -/
def sub (l : List Lt) (c p : Int) : List Lt := (l.drop c.toNat).take (p - c).toNat
theorem sub_len {l : List Lt} {c p : Int} (h0 : 0 ≤ c) (h1 : c ≤ p) (h2 : p ≤ l.length) : (sub l c p).length = (p - c).toNat := by
  unfold sub
  rw [List.length_take, List.length_drop]; omega
theorem cut_sub (l : List Lt) {c p : Int} (h0 : 0 ≤ c) (h1 : c ≤ p) (h2 : p ≤ l.length) : cutZ (wStr l) (some c) (some p) = wStr (sub l c p) := by
  unfold cutZ wStr
  rw [List.toList_toArray, cut3_mapN]
  congr 2
  unfold cut3 HT.sIx sub
  simp only []
  rw [if_neg (by omega), if_neg (by omega), show min c.toNat l.length = c.toNat from by omega, show min p.toNat l.length = p.toNat from by omega, show p.toNat - c.toNat = (p - c).toNat from by omega]
theorem atI_n {cs : List Int} {i : Nat} (h : i < cs.length) : atI (cs.map D.int) (i : Int) = some (.int (cs.getD i 0)) := by
  unfold atI ixN
  rw [List.length_map, if_pos (by omega), if_pos (by omega), Option.bind_some, Int.toNat_natCast, List.getElem?_map, List.getElem?_eq_getElem h, List.getD_eq_getElem?_getD, List.getElem?_eq_getElem h]
  rfl
theorem spn_get {cs : List Int} {L : Int} {i : Nat} (hn : cs ≠ []) (h : i < cs.length) : (spn cs L)[i]? = some (cs[i], if (i : Int) < (cs.length : Int) - 1 then cs.getD (i + 1) 0 else cs.headD 0 + L) := by
  unfold spn
  rw [List.getElem?_zip_eq_some]
  refine ⟨List.getElem?_eq_getElem h, ?_⟩
  unfold ends
  by_cases z : i + 1 < cs.length
  · rw [List.getElem?_append_left (by rw [List.length_drop]; omega), List.getElem?_drop, if_pos (by omega), show 1 + i = i + 1 from by omega, List.getElem?_eq_getElem z, List.getD_eq_getElem?_getD, List.getElem?_eq_getElem z]; rfl
  · rw [List.getElem?_append_right (by rw [List.length_drop]; omega), List.length_drop, show i - (cs.length - 1) = 0 from by omega, if_neg (by omega)]; rfl
/-! words built of stretches and these gone backwards -/
def wAt (W : List Lt) (t : Nat) : Lt := W.getD (t % W.length) 0
section
variable {W U A s B A' B' : List Lt} {L t j q b : Nat}
theorem wAt_lt (h : t < W.length) : W[t]? = some (wAt W t) := by
  unfold wAt
  rw [Nat.mod_eq_of_lt h, List.getD_eq_getElem?_getD, List.getElem?_eq_getElem h]; rfl
theorem wAt_2 (h : t < W.length + W.length) : (W ++ W)[t]? = some (wAt W t) := by
  by_cases z : t < W.length
  · rw [List.getElem?_append_left z]; exact wAt_lt z
  · rw [List.getElem?_append_right (by omega), wAt_lt (t := t - W.length) (by omega)]
    unfold wAt
    rw [show t % W.length = (t - W.length) % W.length from by rw [Nat.mod_eq_sub_mod (by omega)]]
theorem wAt_3 (h : t < W.length + W.length + W.length) : (W ++ W ++ W)[t]? = some (wAt W t) := by
  by_cases z : t < W.length + W.length
  · rw [List.getElem?_append_left (by rw [List.length_append]; exact z)]; exact wAt_2 z
  · rw [List.getElem?_append_right (by rw [List.length_append]; omega), List.length_append, wAt_lt (t := t - (W.length + W.length)) (by omega)]
    unfold wAt
    rw [show t % W.length = (t - (W.length + W.length)) % W.length from by rw [Nat.mod_eq_sub_mod (a := t) (by omega), Nat.mod_eq_sub_mod (a := t - W.length) (by omega), Nat.sub_sub]]
theorem wAt_beg (hb : b ≤ W.length) : wAt (beg W b) t = wAt W (t + b) := by
  by_cases h0 : W.length = 0
  · have : W = [] := List.length_eq_zero_iff.mp h0
    subst this
    simp at hb; subst hb; rfl
  have hl := beg_len W b hb
  have hm : t % W.length < W.length := Nat.mod_lt _ (by omega)
  unfold wAt
  rw [hl, List.getD_eq_getElem?_getD, List.getD_eq_getElem?_getD]
  congr 1
  unfold beg
  by_cases z : t % W.length < W.length - b
  · rw [List.getElem?_append_left (by rw [List.length_drop]; exact z), List.getElem?_drop]
    congr 1
    rw [Nat.add_mod, Nat.mod_eq_of_lt (a := t % W.length + b % W.length)]
    · by_cases e : b = W.length
      · omega
      · rw [Nat.mod_eq_of_lt (by omega : b < W.length)]; omega
    · by_cases e : b = W.length
      · omega
      · rw [Nat.mod_eq_of_lt (by omega : b < W.length)]; omega
  · rw [List.getElem?_append_right (by rw [List.length_drop]; omega), List.length_drop, List.getElem?_take, if_pos (by omega)]
    congr 1
    by_cases e : b = W.length
    · rw [e, Nat.add_mod_right]; omega
    · have hb' : b < W.length := by omega
      have e1 : (t + b) % W.length = (t % W.length + b) % W.length := by rw [Nat.add_mod, Nat.mod_eq_of_lt hb']
      have e2 : (t % W.length + b) % W.length = t % W.length + b - W.length := by rw [Nat.mod_eq_sub_mod (a := t % W.length + b) (by omega), Nat.mod_eq_of_lt (by omega)]
      omega
theorem bk_at {l : List Lt} (h : j < l.length) : (bk l)[j]? = (l[l.length - 1 - j]?).map opp := by
  unfold bk
  rw [List.getElem?_reverse (by rw [List.length_map]; exact h), List.length_map, List.getElem?_map]
theorem sub_at {l : List Lt} {c p : Int} (h0 : 0 ≤ c) (h : (j : Int) < p - c) : (sub l c p)[j]? = l[c.toNat + j]? := by
  unfold sub
  rw [List.getElem?_take, if_pos (by omega), List.getElem?_drop]
/-- each letter of a stretch is the opposite one of its fellow's, from the other end -/
theorem fel_bk {c p M : Int} (c0 : 0 ≤ c) (cp : c ≤ p) (M0 : 0 ≤ M) (hp : p + M ≤ W.length + W.length) (h : ∀ j : Nat, (j : Int) < p - c → wAt W (c.toNat + M.toNat + j) = opp (wAt W (p.toNat - 1 - j))) : bk (sub (W ++ W) c p) = sub (W ++ W ++ W) (c + M) (p + M) := by
  have l1 : (sub (W ++ W) c p).length = (p - c).toNat := sub_len c0 cp (by rw [List.length_append]; omega)
  have l2 : (sub (W ++ W ++ W) (c + M) (p + M)).length = (p - c).toNat := by rw [sub_len (by omega) (by omega) (by rw [List.length_append, List.length_append]; omega)]; omega
  refine List.ext_getElem? fun j => ?_
  by_cases hj : (j : Int) < p - c
  · rw [bk_at (by rw [l1]; omega), l1, sub_at c0 (by omega), sub_at (by omega) (by omega), wAt_2 (by omega), wAt_3 (by omega), Option.map_some]
    congr 1
    rw [show (c + M).toNat + j = c.toNat + M.toNat + j from by omega, h j hj]
    congr 2
    omega
  · rw [List.getElem?_eq_none (by rw [bk_len, l1]; omega), List.getElem?_eq_none (by rw [l2]; omega)]
/-- the stretch s, A ahead of it: its fellow half the word on -/
theorem fel_U (hU : U = A ++ s ++ B ++ (A' ++ bk s ++ B')) (hA : A'.length = A.length) (hB : B'.length = B.length) (hL : L = A.length + s.length + B.length) (hj : j < s.length) : wAt U (A.length + (q + 1) * L + j) = opp (wAt U (A.length + s.length - 1 - j + q * L)) := by
  have lU : U.length = L + L := by rw [hU]; simp only [List.length_append, bk_len]; omega
  have base : ∀ i, i < s.length → U[L + A.length + i]? = (U[A.length + s.length - 1 - i]?).map opp := by
    intro i hi
    have e1 : U[L + A.length + i]? = (bk s)[i]? := by
      rw [hU, List.getElem?_append_right (by simp only [List.length_append]; omega), List.getElem?_append_left (by simp only [List.length_append, bk_len]; omega), List.getElem?_append_right (by simp only [List.length_append]; omega)]
      congr 1
      simp only [List.length_append]; omega
    have e2 : U[A.length + s.length - 1 - i]? = s[s.length - 1 - i]? := by
      rw [hU, List.getElem?_append_left (by simp only [List.length_append]; omega), List.getElem?_append_left (by simp only [List.length_append]; omega), List.getElem?_append_right (by omega)]
      congr 1
      omega
    rw [e1, e2, bk_at hi]
  have val : ∀ i, i < s.length → wAt U (L + A.length + i) = opp (wAt U (A.length + s.length - 1 - i)) := by
    intro i hi
    have := base i hi
    rw [wAt_lt (by omega), wAt_lt (by omega), Option.map_some] at this
    exact Option.some.inj this
  have per : ∀ t k, wAt U (t + k * (L + L)) = wAt U t := by
    intro t k
    unfold wAt
    rw [lU, Nat.add_mul_mod_self_right]
  rcases Nat.mod_two_eq_zero_or_one q with hq | hq
  · obtain ⟨k, rfl⟩ : ∃ k, q = 2 * k := ⟨q / 2, by omega⟩
    rw [show A.length + (2 * k + 1) * L + j = L + A.length + j + k * (L + L) from by rw [Nat.add_mul, Nat.mul_add, Nat.mul_assoc, Nat.mul_comm 2]; omega, per, show A.length + s.length - 1 - j + 2 * k * L = A.length + s.length - 1 - j + k * (L + L) from by rw [Nat.mul_add, Nat.mul_assoc, Nat.mul_comm 2]; omega, per]
    exact val j hj
  · obtain ⟨k, rfl⟩ : ∃ k, q = 2 * k + 1 := ⟨q / 2, by omega⟩
    rw [show A.length + (2 * k + 1 + 1) * L + j = A.length + j + (k + 1) * (L + L) from by rw [Nat.add_mul, Nat.add_mul, Nat.add_mul, Nat.mul_add, Nat.mul_assoc, Nat.mul_comm 2]; omega, per, show A.length + s.length - 1 - j + (2 * k + 1) * L = L + A.length + (s.length - 1 - j) + k * (L + L) from by rw [Nat.add_mul, Nat.mul_add, Nat.mul_assoc, Nat.mul_comm 2]; omega, per, val _ (by omega), opp_opp]
    congr 1
    omega
end
structure Blt (W : List Lt) (cs : List Int) : Prop where
  len : 4 ≤ W.length ∧ W.length ≤ 50
  cts : Cts cs ((W.length : Int) / 2)
  fel : ∀ s ∈ spn cs ((W.length : Int) / 2), bk (sub (W ++ W) s.1 s.2) = sub (W ++ W ++ W) (s.1 + (W.length : Int) / 2) (s.2 + (W.length : Int) / 2)
/-- a span of the begun word, over the stretch s -/
theorem fel_span {U A s B A' B' : List Lt} {L b : Nat} {c p β q : Int} (hU : U = A ++ s ++ B ++ (A' ++ bk s ++ B')) (hA : A'.length = A.length) (hB : B'.length = B.length) (hL : L = A.length + s.length + B.length) (hb : b ≤ U.length) (hβ : (b : Int) = β % (L + L : Int)) (β0 : 0 ≤ β)
    (c0 : 0 ≤ c) (q0 : 0 ≤ q) (hc : c + β = A.length + q * L) (hp : p + β = A.length + s.length + q * L) (hpL : p + L ≤ (L + L) + (L + L)) : bk (sub (beg U b ++ beg U b) c p) = sub (beg U b ++ beg U b ++ beg U b) (c + L) (p + L) := by
  have lU : U.length = L + L := by rw [hU]; simp only [List.length_append, bk_len]; omega
  have lb : (beg U b).length = L + L := by rw [beg_len U b hb, lU]
  by_cases hL0 : L = 0
  · have : s = [] := List.length_eq_zero_iff.mp (by omega)
    subst this
    have : c = p := by simp only [List.length_nil] at hp; omega
    subst this
    unfold sub
    rw [Int.sub_self, Int.sub_self]; rfl
  obtain ⟨β', rfl⟩ := Int.eq_ofNat_of_zero_le β0
  obtain ⟨q', rfl⟩ := Int.eq_ofNat_of_zero_le q0
  obtain ⟨c', rfl⟩ := Int.eq_ofNat_of_zero_le c0
  have hβn : b = β' % (L + L) := by exact_mod_cast hβ
  have hcn : c' + β' = A.length + q' * L := by exact_mod_cast hc
  have hp1 : p = (c' : Int) + s.length := by omega
  have hp0 : 0 ≤ p := by omega
  obtain ⟨p', rfl⟩ := Int.eq_ofNat_of_zero_le hp0
  have hpn : p' + β' = A.length + s.length + q' * L := by exact_mod_cast hp
  refine fel_bk (by omega) (by omega) (by omega) (by rw [lb]; omega) fun j hj => ?_
  have per : ∀ t, wAt (beg U b) t = wAt U (t + β') := by
    intro t
    rw [wAt_beg hb]
    unfold wAt
    rw [lU, hβn, Nat.add_mod, Nat.mod_mod, ← Nat.add_mod]
  rw [per, per]
  simp only [Int.toNat_natCast]
  have := fel_U (q := q') (j := j) hU hA hB hL (by omega)
  rw [show c' + L + j + β' = A.length + (q' + 1) * L + j from by rw [Nat.add_mul]; omega, show p' - 1 - j + β' = A.length + s.length - 1 - j + q' * L from by omega]
  exact this
/-- (a - β) % L and a, by the first one -/
theorem cut_q {a β L x : Int} (L0 : 0 < L) (a0 : 0 ≤ a) (aL : a < L) (hx : x = (0 - β) % L) : (a - β) % L = if x + a < L then x + a else x + a - L := by
  have x0 : 0 ≤ x := by rw [hx]; exact Int.emod_nonneg _ (by omega)
  have x1 : x < L := by rw [hx]; exact Int.emod_lt_of_pos _ L0
  have e : (a - β) % L = (x + a) % L := by
    rw [hx, show a - β = (0 - β) + a from by omega, Int.emod_add_emod]
  rw [e]
  split
  · rename_i z; exact Int.emod_eq_of_lt (by omega) z
  · rw [← Int.sub_emod_right, Int.emod_eq_of_lt (by omega) (by omega)]
theorem uniqI {ms ns es : List Int} (h1 : ms.Perm ns) (h2 : es.Perm ns) (w1 : ms.Pairwise (· ≤ ·)) (w2 : es.Pairwise (· ≤ ·)) : ms = es := (h1.trans h2.symm).eq_of_pairwise (fun _ _ _ _ a b => Int.le_antisymm a b) w1 w2
/-- the spans over the stretch s: from the cut on, or a half round sooner -/
theorem fel_0 {U A s B A' B' : List Lt} {L b : Nat} {x β : Int} (hU : U = A ++ s ++ B ++ (A' ++ bk s ++ B')) (hA : A'.length = A.length) (hB : B'.length = B.length) (hL : L = A.length + s.length + B.length) (hb : b ≤ U.length) (hβ : (b : Int) = β % (L + L : Int)) (β0 : 0 ≤ β) (L0 : 0 < L) (hx : x = (0 - β) % (L : Int)) (c p : Int)
    (h : c = x + A.length ∧ p = x + A.length + s.length ∨ (L : Int) ≤ x + A.length ∧ A.length < L ∧ c = x + A.length - L ∧ p = x + A.length + s.length - L) : bk (sub (beg U b ++ beg U b) c p) = sub (beg U b ++ beg U b ++ beg U b) (c + L) (p + L) := by
  have x0 : 0 ≤ x := by rw [hx]; exact Int.emod_nonneg _ (by omega)
  have x1 : x < L := by rw [hx]; exact Int.emod_lt_of_pos _ (by omega)
  have hq : x + β = -((0 - β) / (L : Int)) * L := by
    have := Int.emod_add_mul_ediv (0 - β) (L : Int)
    rw [← hx, Int.mul_comm] at this
    rw [Int.neg_mul]; omega
  generalize -((0 - β) / (L : Int)) = q at hq
  have q0 : 0 ≤ q := by
    by_cases z : q < 0
    · have : q * L ≤ -1 * (L : Int) := Int.mul_le_mul_of_nonneg_right (by omega) (by omega)
      omega
    · omega
  rcases h with ⟨rfl, rfl⟩ | ⟨h1, h2, rfl, rfl⟩
  · exact fel_span hU hA hB hL hb hβ β0 (by omega) q0 (by omega) (by omega) (by omega)
  · have q1 : 0 ≤ q - 1 := by
      by_cases z : q = 0
      · subst z; rw [Int.zero_mul] at hq; omega
      · omega
    have e : (q - 1) * (L : Int) = q * L - L := by rw [Int.sub_mul]; omega
    exact fel_span hU hA hB hL hb hβ β0 (by omega) q1 (by omega) (by omega) (by omega)
theorem blt2 {s1 s2 : List Lt} {β L : Int} {ms : List Int} (h1 : 0 < s1.length) (h2 : 0 < s2.length) (l1 : s1.length ≤ 4) (l2 : s2.length ≤ 4) (β0 : 0 ≤ β) (hL : L = (s1.length : Int) + s2.length) (hp : ms.Perm [(0 - β) % L, ((s1.length : Int) - β) % L]) (hw : ms.Pairwise (· ≤ ·)) : Blt (beg (s1 ++ s2 ++ (bk s1 ++ bk s2)) (β % (L + L)).toNat) ms := by
  obtain ⟨M, rfl⟩ := Int.eq_ofNat_of_zero_le (show 0 ≤ L by omega)
  have hM : M = s1.length + s2.length := by omega
  have u0 := Int.emod_nonneg β (b := (M + M : Int)) (by omega)
  have u1 := Int.emod_lt_of_pos β (b := (M + M : Int)) (by omega)
  generalize hU : s1 ++ s2 ++ (bk s1 ++ bk s2) = U
  have lU : U.length = M + M := by rw [← hU]; simp only [List.length_append, bk_len]; omega
  generalize hb : (β % (M + M : Int)).toNat = b
  have hbU : b ≤ U.length := by omega
  have hbβ : (b : Int) = β % (M + M : Int) := by omega
  have lW : (beg U b).length = M + M := by rw [beg_len U b hbU, lU]
  have hh : ((beg U b).length : Int) / 2 = M := by omega
  generalize hx : (0 - β) % (M : Int) = x at hp
  have x0 : 0 ≤ x := by rw [← hx]; exact Int.emod_nonneg _ (by omega)
  have x1 : x < M := by rw [← hx]; exact Int.emod_lt_of_pos _ (by omega)
  have F1 := fel_0 (A := []) (s := s1) (B := s2) (A' := []) (B' := bk s2) (L := M) (b := b) (U := U) (by rw [← hU]; rfl) rfl (bk_len _) (by rw [List.length_nil]; omega) hbU hbβ β0 (by omega) hx.symm
  have F2 := fel_0 (A := s1) (s := s2) (B := []) (A' := bk s1) (B' := []) (L := M) (b := b) (U := U) (by rw [← hU]; simp only [List.append_nil]) (bk_len _) rfl (by rw [List.length_nil]; omega) hbU hbβ β0 (by omega) hx.symm
  rw [List.length_nil] at F1
  rw [cut_q (x := x) (by omega) (by omega) (by omega) hx.symm] at hp
  by_cases z : x + (s1.length : Int) < M
  · rw [if_pos z] at hp
    obtain rfl := uniqI hp (List.Perm.refl _) hw (by simp; omega)
    refine ⟨by omega, ⟨.inl rfl, by simp; omega, ?_⟩, ?_⟩
    · rw [hh]; simp; omega
    · rw [hh]
      simp only [spn, ends, List.drop_succ_cons, List.drop_zero, List.cons_append, List.nil_append, List.headD_cons, List.zip_cons_cons, List.zip_nil_right, List.mem_cons, List.not_mem_nil, or_false, forall_eq_or_imp, forall_eq]
      exact ⟨F1 _ _ (by omega), F2 _ _ (by omega)⟩
  · rw [if_neg z] at hp
    obtain rfl := uniqI hp (List.Perm.swap x _ _) hw (by simp; omega)
    refine ⟨by omega, ⟨.inl rfl, by simp; omega, ?_⟩, ?_⟩
    · rw [hh]; simp; omega
    · rw [hh]
      simp only [spn, ends, List.drop_succ_cons, List.drop_zero, List.cons_append, List.nil_append, List.headD_cons, List.zip_cons_cons, List.zip_nil_right, List.mem_cons, List.not_mem_nil, or_false, forall_eq_or_imp, forall_eq]
      exact ⟨F2 _ _ (by omega), F1 _ _ (by omega)⟩
theorem blt3 {s1 s2 s3 : List Lt} {β L : Int} {ms : List Int} (h1 : 0 < s1.length) (h2 : 0 < s2.length) (h3 : 0 < s3.length) (l1 : s1.length ≤ 4) (l2 : s2.length ≤ 4) (l3 : s3.length ≤ 4) (β0 : 0 ≤ β) (hL : L = (s1.length : Int) + s2.length + s3.length) (hp : ms.Perm [(0 - β) % L, ((s1.length : Int) - β) % L, ((s1.length : Int) + s2.length - β) % L]) (hw : ms.Pairwise (· ≤ ·)) : Blt (beg (s1 ++ s2 ++ s3 ++ (bk s1 ++ bk s2 ++ bk s3)) (β % (L + L)).toNat) ms := by
  obtain ⟨M, rfl⟩ := Int.eq_ofNat_of_zero_le (show 0 ≤ L by omega)
  have hM : M = s1.length + s2.length + s3.length := by omega
  have u0 := Int.emod_nonneg β (b := (M + M : Int)) (by omega)
  have u1 := Int.emod_lt_of_pos β (b := (M + M : Int)) (by omega)
  generalize hU : s1 ++ s2 ++ s3 ++ (bk s1 ++ bk s2 ++ bk s3) = U
  have lU : U.length = M + M := by rw [← hU]; simp only [List.length_append, bk_len]; omega
  generalize hb : (β % (M + M : Int)).toNat = b
  have hbU : b ≤ U.length := by omega
  have hbβ : (b : Int) = β % (M + M : Int) := by omega
  have lW : (beg U b).length = M + M := by rw [beg_len U b hbU, lU]
  have hh : ((beg U b).length : Int) / 2 = M := by omega
  generalize hx : (0 - β) % (M : Int) = x at hp
  have x0 : 0 ≤ x := by rw [← hx]; exact Int.emod_nonneg _ (by omega)
  have x1 : x < M := by rw [← hx]; exact Int.emod_lt_of_pos _ (by omega)
  have F1 := fel_0 (A := []) (s := s1) (B := s2 ++ s3) (A' := []) (B' := bk s2 ++ bk s3) (L := M) (b := b) (U := U) (by rw [← hU]; simp only [List.append_assoc, List.nil_append]) rfl (by rw [List.length_append, List.length_append, bk_len, bk_len]) (by rw [List.length_nil, List.length_append]; omega) hbU hbβ β0 (by omega) hx.symm
  have F2 := fel_0 (A := s1) (s := s2) (B := s3) (A' := bk s1) (B' := bk s3) (L := M) (b := b) (U := U) hU.symm (bk_len _) (bk_len _) hM hbU hbβ β0 (by omega) hx.symm
  have F3 := fel_0 (A := s1 ++ s2) (s := s3) (B := []) (A' := bk s1 ++ bk s2) (B' := []) (L := M) (b := b) (U := U) (by rw [← hU]; simp only [List.append_nil]) (by rw [List.length_append, List.length_append, bk_len, bk_len]) rfl (by rw [List.length_nil, List.length_append]; omega) hbU hbβ β0 (by omega) hx.symm
  rw [List.length_nil] at F1
  rw [List.length_append] at F3
  rw [cut_q (x := x) (by omega) (by omega) (by omega) hx.symm, cut_q (a := (s1.length : Int) + s2.length) (x := x) (by omega) (by omega) (by omega) hx.symm] at hp
  by_cases z : x + ((s1.length : Int) + s2.length) < M
  · rw [if_pos (by omega), if_pos z] at hp
    obtain rfl := uniqI hp (List.Perm.refl _) hw (by simp; omega)
    refine ⟨by omega, ⟨.inr rfl, by simp; omega, ?_⟩, ?_⟩
    · rw [hh]; simp; omega
    · rw [hh]
      simp only [spn, ends, List.drop_succ_cons, List.drop_zero, List.cons_append, List.nil_append, List.headD_cons, List.zip_cons_cons, List.zip_nil_right, List.mem_cons, List.not_mem_nil, or_false, forall_eq_or_imp, forall_eq]
      exact ⟨F1 _ _ (by omega), F2 _ _ (by omega), F3 _ _ (by omega)⟩
  · by_cases y : x + (s1.length : Int) < M
    · rw [if_pos y, if_neg z] at hp
      obtain rfl := uniqI hp ((List.Perm.swap x _ _).trans ((List.Perm.swap _ _ _).cons x)) hw (by simp; omega)
      refine ⟨by omega, ⟨.inr rfl, by simp; omega, ?_⟩, ?_⟩
      · rw [hh]; simp; omega
      · rw [hh]
        simp only [spn, ends, List.drop_succ_cons, List.drop_zero, List.cons_append, List.nil_append, List.headD_cons, List.zip_cons_cons, List.zip_nil_right, List.mem_cons, List.not_mem_nil, or_false, forall_eq_or_imp, forall_eq]
        exact ⟨F3 _ _ (by omega), F1 _ _ (by omega), F2 _ _ (by omega)⟩
    · rw [if_neg y, if_neg z] at hp
      obtain rfl := uniqI hp (((List.Perm.swap x _ _).cons _).trans (List.Perm.swap x _ _)) hw (by simp; omega)
      refine ⟨by omega, ⟨.inr rfl, by simp; omega, ?_⟩, ?_⟩
      · rw [hh]; simp; omega
      · rw [hh]
        simp only [spn, ends, List.drop_succ_cons, List.drop_zero, List.cons_append, List.nil_append, List.headD_cons, List.zip_cons_cons, List.zip_nil_right, List.mem_cons, List.not_mem_nil, or_false, forall_eq_or_imp, forall_eq]
        exact ⟨F2 _ _ (by omega), F3 _ _ (by omega), F1 _ _ (by omega)⟩
/-! the corners of a closed word, gone round -/
def pw (W : List Lt) (i : Nat) : Pt := endp (0, 0) (W.take (i % W.length))
theorem pw_lt {W : List Lt} {i : Nat} (h : i < W.length) : pw W i = endp (0, 0) (W.take i) := by
  unfold pw; rw [Nat.mod_eq_of_lt h]
theorem pw_2 {W : List Lt} {i : Nat} (hW : endp (0, 0) W = (0, 0)) (h : i ≤ W.length + W.length) : endp (0, 0) ((W ++ W).take i) = pw W i := by
  by_cases z : i < W.length
  · rw [pw_lt z, List.take_append_of_le_length (by omega)]
  · rw [List.take_append, List.take_of_length_le (by omega : W.length ≤ i), endp_app, hW]
    by_cases y : i < W.length + W.length
    · unfold pw
      rw [Nat.mod_eq_sub_mod (by omega), Nat.mod_eq_of_lt (by omega)]
    · have : i = W.length + W.length := by omega
      subst this
      unfold pw
      rw [Nat.add_mod_right, Nat.mod_self, List.take_of_length_le (by omega), hW]; rfl
theorem pw_step {W : List Lt} {i : Nat} (hW : endp (0, 0) W = (0, 0)) (h0 : 0 < W.length) : pw W (i + 1) = adp (step (wAt W i)) (pw W i) := by
  have hm := Nat.mod_lt i h0
  unfold pw wAt
  have ht : W.take (i % W.length + 1) = W.take (i % W.length) ++ [W.getD (i % W.length) 0] := by
    rw [List.take_add_one, List.getD_eq_getElem?_getD, List.getElem?_eq_getElem hm]; rfl
  rw [← endp_snoc, ← ht]
  by_cases z : i % W.length + 1 < W.length
  · rw [Nat.add_mod, Nat.mod_eq_of_lt (a := i % W.length + 1 % W.length)]
    · rw [Nat.mod_eq_of_lt (a := 1) (by omega)]
    · rw [Nat.mod_eq_of_lt (a := 1) (by omega)]; exact z
  · rw [List.take_of_length_le (i := i % W.length + 1) (by omega), hW]
    have e : (i + 1) % W.length = 0 := by
      rw [← Nat.div_add_mod i W.length, Nat.add_assoc, show i % W.length + 1 = W.length from by omega, Nat.mul_add_mod, Nat.mod_self]
    rw [e]; rfl
def dif (a b : Pt) : Pt := (a.1 - b.1, a.2 - b.2)
/-- a stretch's shift -/
def sh (W : List Lt) (L : Int) (s : Int × Int) : Pt := dif (pw W s.1.toNat) (pw W (s.2 + L).toNat)
/-- the fellow's corners, moved by the shift, are the stretch's -/
def Fel (W : List Lt) (L : Int) (s : Int × Int) : Prop := ∀ t : Nat, (t : Int) ≤ s.2 - s.1 → dif (pw W (s.1 + t).toNat) (pw W (s.2 + L - t).toNat) = sh W L s
theorem fel_lt {W : List Lt} {c p L : Int} {t : Nat} (c0 : 0 ≤ c) (L0 : 0 ≤ L) (hp : p + L ≤ W.length + W.length) (h : bk (sub (W ++ W) c p) = sub (W ++ W ++ W) (c + L) (p + L)) (ht : (t : Int) < p - c) : wAt W (p + L - t - 1).toNat = opp (wAt W (c + t).toNat) := by
  have l1 : (sub (W ++ W) c p).length = (p - c).toNat := sub_len c0 (by omega) (by rw [List.length_append]; omega)
  have e := congrArg (fun l : List Lt => l[(p - c - 1 - t).toNat]?) h
  rw [bk_at (by rw [l1]; omega), l1, sub_at c0 (by omega), sub_at (by omega) (by omega), wAt_2 (by omega), wAt_3 (by omega), Option.map_some] at e
  have e' := Option.some.inj e
  rw [show (p + L - t - 1).toNat = (c + L).toNat + (p - c - 1 - t).toNat from by omega, ← e']
  congr 2
  omega
theorem fel_of {W : List Lt} {c p L : Int} (hW : endp (0, 0) W = (0, 0)) (h0 : 0 < W.length) (c0 : 0 ≤ c) (L0 : 0 ≤ L) (hp : p + L ≤ W.length + W.length) (h : bk (sub (W ++ W) c p) = sub (W ++ W ++ W) (c + L) (p + L)) : Fel W L (c, p) := by
  intro t
  induction t with
  | zero => intro _; unfold sh; simp
  | succ t ih =>
    intro ht
    dsimp only at ht
    have e1 := ih (by dsimp only; omega)
    have e2 := fel_lt c0 L0 hp h (t := t) (by omega)
    dsimp only at e1 ⊢
    rw [← e1]
    have s1 := pw_step (i := (c + t).toNat) hW h0
    have s2 := pw_step (i := (p + L - t - 1).toNat) hW h0
    rw [e2, show (p + L - t - 1).toNat + 1 = (p + L - t).toNat from by omega] at s2
    rw [show (c + t).toNat + 1 = (c + (t + 1 : Nat)).toNat from by omega] at s1
    rw [s1, s2, show (p + L - (t + 1 : Nat)).toNat = (p + L - t - 1).toNat from by omega]
    generalize wAt W (c + t).toNat = l
    generalize pw W (c + t).toNat = A
    generalize pw W (p + L - t - 1).toNat = B
    have o := step_opp l (0, 0)
    have o1 : 0 + (step l).1 + (step (opp l)).1 = 0 := congrArg Prod.fst o
    have o2 : 0 + (step l).2 + (step (opp l)).2 = 0 := congrArg Prod.snd o
    exact Prod.ext (by show A.1 + (step l).1 - B.1 = A.1 - (B.1 + (step (opp l)).1); omega) (by show A.2 + (step l).2 - B.2 = A.2 - (B.2 + (step (opp l)).2); omega)
/-- of three shifts the middle one is the sum of the others -/
theorem mid_sum {W : List Lt} {L a b d : Int} (hL : (W.length : Int) = L + L) (h0 : 0 < W.length) (a0 : 0 ≤ a) (b0 : 0 ≤ b) (aL : a < L) (bd : b ≤ d) (hf : Fel W L (b, d)) : sh W L (b, d) = ((sh W L (a, b)).1 + (sh W L (d, a + L)).1, (sh W L (a, b)).2 + (sh W L (d, a + L)).2) := by
  have e := hf (d - b).toNat (by dsimp only; omega)
  dsimp only at e
  rw [← e, show b + ((d - b).toNat : Int) = d from by omega, show d + L - ((d - b).toNat : Int) = b + L from by omega]
  have e2 : pw W (a + L + L).toNat = pw W a.toNat := by
    unfold pw
    rw [show (a + L + L).toNat = a.toNat + W.length from by omega, Nat.add_mod_right]
  unfold sh
  rw [e2]
  unfold dif
  exact Prod.ext (by dsimp only; omega) (by dsimp only; omega)
theorem endp_bk (c : Pt) : ∀ ls : List Lt, endp (endp c ls) (bk ls) = c := by
  intro ls
  induction ls generalizing c with
  | nil => rfl
  | cons l ls ih =>
    have e1 : endp c (l :: ls) = endp (adp (step l) c) ls := rfl
    have e2 : bk (l :: ls) = bk ls ++ [opp l] := by unfold bk; rw [List.map_cons, List.reverse_cons]
    rw [e1, e2, endp_snoc, ih, step_opp]
theorem clo_ws : ∀ ws : List (List Lt), adp (endp (0, 0) (ws.map bk).flatten) (endp (0, 0) ws.flatten) = (0, 0)
  | [] => rfl
  | w :: ws => by
    have ih := clo_ws ws
    have e := endp_bk (0, 0) w
    rw [endp_way] at e
    rw [List.map_cons, List.flatten_cons, List.flatten_cons, endp_app, endp_app, endp_way (endp (0, 0) w), endp_way (endp (0, 0) (bk w))]
    have i1 : (endp (0, 0) ws.flatten).1 + (endp (0, 0) (ws.map bk).flatten).1 = 0 := congrArg Prod.fst ih
    have i2 : (endp (0, 0) ws.flatten).2 + (endp (0, 0) (ws.map bk).flatten).2 = 0 := congrArg Prod.snd ih
    have j1 : (endp (0, 0) w).1 + (endp (0, 0) (bk w)).1 = 0 := congrArg Prod.fst e
    have j2 : (endp (0, 0) w).2 + (endp (0, 0) (bk w)).2 = 0 := congrArg Prod.snd e
    generalize endp (0, 0) ws.flatten = A at *
    generalize endp (0, 0) (ws.map bk).flatten = B at *
    generalize endp (0, 0) w = C at *
    generalize endp (0, 0) (bk w) = D at *
    exact Prod.ext (by show C.1 + A.1 + (D.1 + B.1) = 0; omega) (by show C.2 + A.2 + (D.2 + B.2) = 0; omega)
theorem clo_beg (ws : List (List Lt)) (n : Nat) : endp (0, 0) (beg (ws.flatten ++ (ws.map bk).flatten) n) = (0, 0) := by
  rw [endp_beg, endp_app, endp_way]; exact clo_ws ws
def strD (w : List Lt) : D := .str (wStr w)
theorem joinW {ws : List (List Lt)} {a : Addr} {H : Hp3} {Q : VK3} (ha : H a = some (.lst (ws.map strD))) (hl : ws.flatten.length ≤ 1000) (q : Q (.str (wStr ws.flatten)) H) : r3join (.str (Str.ofString "")) [.ref a] H Q := by
  have ej : joinZ (Str.ofString "") (ws.map wStr) = wStr ws.flatten := by
    rw [joinZ_nil (z := Str.ofString "") rfl, List.map_map]
    unfold wStr
    rw [List.map_flatten]; rfl
  have es : ∀ us : List (List Lt), (us.map ((fun y : Str => y.cps.size) ∘ wStr)).sum = us.flatten.length := by
    intro us
    induction us with
    | nil => rfl
    | cons u us ih =>
      rw [List.map_cons, List.sum_cons, ih, List.flatten_cons, List.length_append]
      congr 1
      exact wStr_len u
  refine g_join (ys := ws.map wStr) (by rw [ha, List.map_map]; rfl) ?_ (by rw [ej]; exact q)
  rw [List.map_map, es, show (Str.ofString "").cps.size = 0 from rfl]
  omega
def sp_l_built : Sp3 := fun ds H Q => match ds with
  | [.ref a, .int b] => (∃ ws : List (List Lt), H a = some (.lst (ws.map strD)) ∧ (ws.length = 2 ∨ ws.length = 3) ∧ (∀ w ∈ ws, 0 < w.length ∧ w.length ≤ 4)) ∧ 0 ≤ b ∧ ∀ W cs, Blt W cs → endp (0, 0) W = (0, 0) → W.length % 2 = 0 → Q (.tup [.str (wStr W), .tup (cs.map D.int)]) H
  | _ => False
theorem u_l_built {a : Addr} {b : Int} {H : Hp3} {Q : VK3} (ws : List (List Lt)) (ha : H a = some (.lst (ws.map strD))) (hl : ws.length = 2 ∨ ws.length = 3) (hw : ∀ w ∈ ws, 0 < w.length ∧ w.length ≤ 4) (b0 : 0 ≤ b) (q : ∀ W cs, Blt W cs → endp (0, 0) W = (0, 0) → W.length % 2 = 0 → Q (.tup [.str (wStr W), .tup (cs.map D.int)]) H) : sp_l_built [.ref a, .int b] H Q := ⟨⟨ws, ha, hl, hw⟩, b0, q⟩
/-- where the stretches begin in the begun word -/
def ctk (ws : List (List Lt)) (b : Int) (k : Nat) : Int := (((ws.take k).flatten.length : Int) - b) % (ws.flatten.length : Int)
theorem blt_ws {ws : List (List Lt)} {b : Int} {ms : List Int} (hl : ws.length = 2 ∨ ws.length = 3) (hw : ∀ w ∈ ws, 0 < w.length ∧ w.length ≤ 4) (b0 : 0 ≤ b) (hp : ms.Perm ((List.range ws.length).map (ctk ws b))) (hs : ms.Pairwise (· ≤ ·)) : Blt (beg (ws.flatten ++ (ws.map bk).flatten) (b % ((ws.flatten ++ (ws.map bk).flatten).length : Int)).toNat) ms := by
  rcases ws with _ | ⟨s1, _ | ⟨s2, _ | ⟨s3, _ | _⟩⟩⟩ <;> simp at hl
  · have a1 := hw s1 (by simp)
    have a2 := hw s2 (by simp)
    have := blt2 (s1 := s1) (s2 := s2) (β := b) (L := (s1.length : Int) + s2.length) (ms := ms) a1.1 a2.1 a1.2 a2.2 b0 rfl ?_ hs
    · simp only [List.flatten_cons, List.flatten_nil, List.append_nil, List.map_cons, List.map_nil]
      rw [show (((s1 ++ s2 ++ (bk s1 ++ bk s2)).length : Nat) : Int) = (s1.length : Int) + s2.length + ((s1.length : Int) + s2.length) from by simp only [List.length_append, bk_len]; omega]
      exact this
    · simp only [ctk, List.length_cons, List.length_nil, List.range_succ, List.range_zero, List.nil_append, List.cons_append, List.map_cons, List.map_nil, List.take_zero, List.take_succ_cons, List.flatten_cons, List.flatten_nil, List.append_nil, List.length_append, Int.natCast_add] at hp
      exact hp
  · have a1 := hw s1 (by simp)
    have a2 := hw s2 (by simp)
    have a3 := hw s3 (by simp)
    have := blt3 (s1 := s1) (s2 := s2) (s3 := s3) (β := b) (L := (s1.length : Int) + s2.length + s3.length) (ms := ms) a1.1 a2.1 a3.1 a1.2 a2.2 a3.2 b0 rfl ?_ hs
    · simp only [List.flatten_cons, List.flatten_nil, List.append_nil, List.map_cons, List.map_nil, ← List.append_assoc]
      simp only [← List.append_assoc] at this
      rw [show (((s1 ++ s2 ++ s3 ++ bk s1 ++ bk s2 ++ bk s3).length : Nat) : Int) = (s1.length : Int) + s2.length + s3.length + ((s1.length : Int) + s2.length + s3.length) from by simp only [List.length_append, bk_len]; omega]
      exact this
    · simp only [ctk, List.length_cons, List.length_nil, List.range_succ, List.range_zero, List.nil_append, List.cons_append, List.map_cons, List.map_nil, List.take_zero, List.take_succ_cons, List.flatten_cons, List.flatten_nil, List.append_nil, List.length_append, Int.natCast_add, ← Int.add_assoc] at hp
      exact hp
theorem flat_le {ws : List (List Lt)} (hl : ws.length = 2 ∨ ws.length = 3) (hw : ∀ w ∈ ws, 0 < w.length ∧ w.length ≤ 4) : 2 ≤ ws.flatten.length ∧ ws.flatten.length ≤ 12 ∧ (ws.map bk).flatten.length = ws.flatten.length := by
  rcases ws with _ | ⟨s1, _ | ⟨s2, _ | ⟨s3, _ | _⟩⟩⟩ <;> simp at hl
  · have a1 := hw s1 (by simp)
    have a2 := hw s2 (by simp)
    simp only [List.flatten_cons, List.flatten_nil, List.append_nil, List.map_cons, List.map_nil, List.length_append, bk_len, and_true]
    omega
  · have a1 := hw s1 (by simp)
    have a2 := hw s2 (by simp)
    have a3 := hw s3 (by simp)
    simp only [List.flatten_cons, List.flatten_nil, List.append_nil, List.map_cons, List.map_nil, List.length_append, bk_len, and_true]
    omega
theorem len_l_built : ∀ (ds : List D) (H : Hp3) (Q : VK3), sp_l_built ds H Q → ds.length = P_l_built.length := by
  intro ds H Q h
  unfold sp_l_built at h
  split at h
  · rfl
  · exact h.elim

def lp_l_built_0 : TS3 := fo3 (il3 (v3 0)) (gn3 6) (sq3 (dr3 (m3 r3app (v3 4) (cons3 (o3 i3mod (o3 i3sub (v3 5) (v3 1)) (cb3 r3len (cons3 (v3 2) nil3))) nil3)))
    (st3 5 (o3 r3add (v3 5) (cb3 r3len (cons3 (v3 6) nil3)))))
def t_l_built : TS3 := (sq3 (st3 2 (mz3 r3join (c3 (.str "")) (cons3 (v3 0) nil3)))
    (sq3 (st3 3 (o3 r3add (v3 2) (mz3 r3join (c3 (.str "")) (cons3 (cp3 (il3 (v3 0)) (gn3 0) yes3 (cb3 sp_l_back (cons3 (v3 0) nil3)) ["_law_one"] []) nil3))))
    (sq3 (st3 4 (ls3 nil3))
    (sq3 (st3 5 (c3 (.int 0)))
    (sq3 lp_l_built_0
    (sq3 (st3 1 (o3 i3mod (v3 1) (cb3 r3len (cons3 (v3 3) nil3))))
    (rt3 (tp3 (cons3 (o3 r3add (sl3 r3slZ (v3 3) (pt3 (v3 1)) np3) (sl3 r3slZ (v3 3) np3 (pt3 (v3 1)))) (cons3 (cb3 r3tuple (cons3 (cb3 r3sortI (cons3 (v3 4) nil3)) nil3)) nil3))))))))))
theorem rd_l_built : ∀ (ds : List D) (H : Hp3) (Q : VK3), sp_l_built ds H Q → t_l_built (fin3 Q) (start3 N_l_built ds) H := by
  intro ds H Q h
  unfold sp_l_built at h
  split at h
  case h_2 => exact h.elim
  rename_i a b
  obtain ⟨⟨ws, ha, hl, hw⟩, b0, h⟩ := h
  obtain ⟨f2, f12, fb⟩ := flat_le hl hw
  simp only [t_l_built, start3, N_l_built, List.map_cons, List.map_nil, List.length_cons, List.length_nil, Nat.reduceAdd, Nat.reduceSub, Nat.zero_add, List.replicate, List.cons_append, List.nil_append]
  walk_at "l3"
  refine joinW ha (by omega) ?_
  walk_at "l3"
  refine Cp.map (E := strD) (as := ws) (fun w => strD (bk w)) (fun H3 hs => hs _ _ ha) (by omega) ?_ ?_
  · intro i w hiw R H2 hs hR
    unfold strD
    walk_at "l3"
    refine u_l_back w (by have := (hw w (List.mem_of_getElem? hiw)).2; omega) ?_
    exact hR H2 Sub3.refl
  intro p hp
  walk_at "l3"
  refine joinW (ws := ws.map bk) (by rw [upd3_same, List.map_map]; rfl) (by omega) ?_
  walk_at "l3"
  refine g_addZ (by rw [wStr_len, wStr_len, sizeLine_n]; omega) ?_
  rw [wStr_app]
  walk_at "l3"
  intro p1 hp1
  walk_at "l3"
  unfold lp_l_built_0
  walk_at "l3"
  have s1 : Sub3 H (upd3 H p (.lst (ws.map fun w => strD (bk w)))) := Sub3.fresh hp
  generalize upd3 H p (.lst (ws.map fun w => strD (bk w))) = H1 at *
  have ha1 := s1 _ _ ha
  have na : a ≠ p1 := ne3 ha1 hp1
  generalize hU : ws.flatten ++ (ws.map bk).flatten = U at *
  have lU : U.length = ws.flatten.length + ws.flatten.length := by rw [← hU, List.length_append, fb]
  refine Lp.by (fun i σ H2 => H2 = upd3 H1 p1 (.lst ((List.range i).map fun k => D.int (ctk ws b k))) ∧ ∃ x, σ = [some (.ref a), some (.int b), some (.str (wStr ws.flatten)), some (.str (wStr U)), some (.ref p1), some (.int (ws.take i).flatten.length), x]) ⟨rfl, _, rfl⟩ (fun i σ H2 _ z => by rw [z.1]; exact upd3_old ha1 hp1) ?_ ?_
  · rintro i d σ H2 hd ⟨rfl, x, rfl⟩
    rw [List.getElem?_map, Option.map_eq_some_iff] at hd
    obtain ⟨w, hg, rfl⟩ := hd
    unfold strD
    walk_at "l3"
    refine g_lenW (by omega) ?_
    walk_at "l3"
    refine g_app upd3_same (small1000' (by rw [List.length_map, List.length_range]; have := (List.getElem?_eq_some_iff.mp hg).1; omega)) ?_
    rw [upd3_upd3]
    walk_at "l3"
    refine g_lenW (by have := (hw w (List.mem_of_getElem? hg)).2; omega) ?_
    walk_at "l3"
    refine ⟨by rw [List.range_succ, List.map_append]; rfl, some (.str (wStr w)), ?_⟩
    rw [List.take_add_one, hg]
    simp only [Option.toList_some, List.flatten_append, List.flatten_cons, List.flatten_nil, List.append_nil, List.length_append, Int.natCast_add]
  · rintro σ H2 ⟨rfl, x, rfl⟩
    rw [List.length_map]
    walk_at "l3"
    refine g_lenW (by omega) ?_
    have m0 := Int.emod_nonneg b (b := (U.length : Int)) (by omega)
    have m1 := Int.emod_lt_of_pos b (b := (U.length : Int)) (by omega)
    have key := fun ms hpm hs => blt_ws (ms := ms) hl hw b0 hpm hs
    rw [hU] at key
    obtain ⟨n, hn⟩ := Int.eq_ofNat_of_zero_le m0
    rw [hn, Int.toNat_natCast] at key
    walk_at "l3"
    rw [hn]
    walk_at "l3"
    refine g_slZ (wStr_le _ (by omega)) ?_
    rw [cut_drop]
    walk_at "l3"
    refine g_slZ (wStr_le _ (by omega)) ?_
    rw [cut_take]
    walk_at "l3"
    refine g_addZ (by rw [wStr_len, wStr_len, List.length_drop, List.length_take, sizeLine_n]; omega) ?_
    rw [wStr_app]
    walk_at "l3"
    refine g_sortI (ns := (List.range ws.length).map (ctk ws b)) (by rw [upd3_same, List.map_map]; rfl) (by rw [List.length_map, List.length_range]; omega) fun ms p2 hpm hs hp2 => ?_
    walk_at "l3"
    have hcl := clo_beg ws n
    rw [hU] at hcl
    exact g_fin (h _ ms (key ms hpm hs) hcl (by show (beg U n).length % 2 = 0; rw [beg_len U n (by omega), lU]; omega)) (s1.trans ((Sub3.fresh hp1).trans (Sub3.fresh hp2)))

theorem upd3_id {H : Hp3} {a : Addr} {o : O3} (h : H a = some o) : upd3 H a o = H := by
  funext q
  by_cases z : q = a
  · rw [z, upd3_same, h]
  · rw [upd3_ne z]
theorem path_pw {W : List Lt} {i : Int} (hW : endp (0, 0) W = (0, 0)) (i0 : 0 ≤ i) (h : i < W.length) : atI ((path (0, 0) W).map prP) i = some (.tup [.int (pw W i.toNat).1, .int (pw W i.toNat).2]) := by
  have hl := path_len (0, 0) W
  rw [atI_map i0 (by rw [hl]; omega)]
  have := path_get (0, 0) W i.toNat
  rw [if_pos (by omega), List.getElem?_eq_getElem (by rw [hl]; omega)] at this
  rw [Option.some.inj this, pw_lt (by omega)]; rfl
theorem path_pw2 {W : List Lt} {i : Int} (hW : endp (0, 0) W = (0, 0)) (i0 : 0 ≤ i) (h : i ≤ W.length + W.length) : atI ((path (0, 0) (W ++ W)).map prP) i = some (.tup [.int (pw W i.toNat).1, .int (pw W i.toNat).2]) := by
  have hl := path_len (0, 0) (W ++ W)
  rw [List.length_append] at hl
  rw [atI_map i0 (by rw [hl]; omega)]
  have := path_get (0, 0) (W ++ W) i.toNat
  rw [List.length_append, if_pos (by omega), List.getElem?_eq_getElem (by rw [hl]; omega)] at this
  rw [Option.some.inj this, pw_2 hW (by omega)]; rfl
def sp_shifts_by : Sp3 := fun ds H Q => match ds with
  | [.str z, .tup xs] => ∃ (W : List Lt) (cs : List Int), (z = wStr W ∧ xs = cs.map D.int ∧ 4 ≤ W.length ∧ W.length ≤ 240 ∧ Cts cs ((W.length : Int) / 2) ∧ endp (0, 0) W = (0, 0)) ∧ ∀ p, H p = none → Q (.ref p) (upd3 H p (.lst ((spn cs ((W.length : Int) / 2)).map fun s => prP (sh W ((W.length : Int) / 2) s))))
  | _ => False
theorem u_shifts_by {W : List Lt} {cs : List Int} {H : Hp3} {Q : VK3} (h4 : 4 ≤ W.length) (hl : W.length ≤ 240) (hc : Cts cs ((W.length : Int) / 2)) (hW : endp (0, 0) W = (0, 0)) (h : ∀ p, H p = none → Q (.ref p) (upd3 H p (.lst ((spn cs ((W.length : Int) / 2)).map fun s => prP (sh W ((W.length : Int) / 2) s))))) : sp_shifts_by [.str (wStr W), .tup (cs.map D.int)] H Q := ⟨W, cs, ⟨rfl, rfl, h4, hl, hc, hW⟩, h⟩
theorem len_shifts_by : ∀ (ds : List D) (H : Hp3) (Q : VK3), sp_shifts_by ds H Q → ds.length = P_shifts_by.length := by
  intro ds H Q h
  unfold sp_shifts_by at h
  split at h
  · rfl
  · exact h.elim

def lp_shifts_by_0 : TS3 := fo3 (il3 (cb3 sp_spans_of (cons3 (v3 0) (cons3 (v3 1) nil3)))) (gn3 5) (sq3 (st3 6 (o3 i3mod (o3 r3add (o3 r3ix (v3 5) (c3 (.int 1))) (v3 3)) (cb3 r3len (cons3 (v3 0) nil3))))
    (dr3 (m3 r3app (v3 4) (cons3 (cb3 sp_taken (cons3 (o3 r3ix (v3 2) (o3 r3ix (v3 5) (c3 (.int 0)))) (cons3 (o3 r3ix (v3 2) (v3 6)) nil3))) nil3))))
def t_shifts_by : TS3 := (sq3 (st3 2 (cb3 sp_corners_of (cons3 (tp3 (cons3 (c3 (.int 0)) (cons3 (c3 (.int 0)) nil3))) (cons3 (v3 0) nil3))))
    (sq3 (st3 3 (o3 i3divW (cb3 r3len (cons3 (v3 0) nil3)) (c3 (.int 2))))
    (sq3 (st3 4 (ls3 nil3))
    (sq3 lp_shifts_by_0
    (rt3 (v3 4))))))
theorem rd_shifts_by : ∀ (ds : List D) (H : Hp3) (Q : VK3), sp_shifts_by ds H Q → t_shifts_by (fin3 Q) (start3 N_shifts_by ds) H := by
  intro ds H Q h
  unfold sp_shifts_by at h
  split at h
  case h_2 => exact h.elim
  obtain ⟨W, cs, ⟨rfl, rfl, h4, hl, hc, hW⟩, h⟩ := h
  have hcl := hc.len
  simp only [t_shifts_by, start3, N_shifts_by, List.map_cons, List.map_nil, List.length_cons, List.length_nil, Nat.reduceAdd, Nat.reduceSub, Nat.zero_add, List.replicate, List.cons_append, List.nil_append]
  walk_at "l3"
  refine u_corners_of W (by omega) fun p hp => ?_
  walk_at "l3"
  refine g_lenW (by omega) ?_
  walk_at "l3"
  intro p1 hp1
  walk_at "l3"
  unfold lp_shifts_by_0
  walk_at "l3"
  refine u_spans_of (by omega) hc.ne (by omega) fun p2 hp2 => ?_
  generalize hL : (W.length : Int) / 2 = L at *
  walk_at "l3"
  have q1 : p ≠ p1 := ne3 upd3_same hp1
  have q2 : p ≠ p2 := ne3 (upd3_old upd3_same hp1) hp2
  have q3 : p1 ≠ p2 := ne3 upd3_same hp2
  refine Lp.by (fun i σ H2 => H2 = upd3 (upd3 (upd3 (upd3 H p (.lst ((path (0, 0) W).map prP))) p1 (.lst [])) p2 (.lst ((spn cs L).map prP))) p1 (.lst (((spn cs L).take i).map fun s => prP (sh W L s))) ∧ ∃ x y, σ = [some (.str (wStr W)), some (.tup (cs.map D.int)), some (.ref p), some (.int L), some (.ref p1), x, y]) ⟨by rw [List.take_zero]; exact (upd3_id (by rw [upd3_ne q3]; exact upd3_same)).symm, _, _, rfl⟩ (fun i σ H2 _ z => by rw [z.1, upd3_ne q3.symm]; exact upd3_same) ?_ ?_
  · rintro i d σ H2 hd ⟨rfl, x, y, rfl⟩
    rw [List.getElem?_map, Option.map_eq_some_iff] at hd
    obtain ⟨s, hs, rfl⟩ := hd
    obtain ⟨b1, b2, b3, b4⟩ := hc.spn s (List.mem_of_getElem? hs)
    unfold prP
    walk_at "l3"
    refine g_lenW (by omega) ?_
    walk_at "l3"
    have m0 := Int.emod_nonneg (s.2 + L) (b := (W.length : Int)) (by omega)
    have m1 := Int.emod_lt_of_pos (s.2 + L) (b := (W.length : Int)) (by omega)
    refine g_ixL (by rw [upd3_ne q1, upd3_ne q2, upd3_ne q1]; exact upd3_same) (path_pw hW b1 (by omega)) ?_
    walk_at "l3"
    refine g_ixL (by rw [upd3_ne q1, upd3_ne q2, upd3_ne q1]; exact upd3_same) (path_pw hW m0 m1) ?_
    walk_at "l3"
    refine g_app upd3_same (small1000' (by rw [List.length_map, List.length_take, spn_len hc.ne]; omega)) ?_
    rw [upd3_upd3]
    walk_at "l3"
    refine ⟨?_, _, _, rfl⟩
    rw [List.take_add_one, hs, List.map_append]
    have e : pw W ((s.2 + L) % (W.length : Int)).toNat = pw W (s.2 + L).toNat := by
      have t : ((s.2 + L) % (W.length : Int)).toNat = (s.2 + L).toNat % W.length := by
        obtain ⟨n, hn⟩ := Int.eq_ofNat_of_zero_le (show 0 ≤ s.2 + L by omega)
        rw [hn]; rfl
      unfold pw
      rw [t, Nat.mod_mod]
    rw [e]; rfl
  · rintro σ H2 ⟨rfl, x, y, rfl⟩
    rw [List.length_map, List.take_of_length_le (Nat.le_refl _)]
    walk_at "l3"
    have h1 : H p1 = none := sub_back (Sub3.fresh hp) hp1
    refine g_fin (h p1 h1) (sub_upd (fun q o hq => ?_) upd3_same)
    have z : q ≠ p1 := ne3 hq h1
    rw [upd3_ne z]
    exact upd3_old (upd3_old (upd3_old hq hp) hp1) hp2

def sp_l_stretches : Sp3 := fun ds H Q => match ds with
  | [.fl xs, .int a] => (match intsOf xs with
    | some ns => (0 ≤ a ∧ a < 500 ∧ ns.length ≤ 63) ∧ ∀ p (ws : List (List Lt)), H p = none → ws.length ≤ 3 → (∀ w ∈ ws, w ≠ [] ∧ w.length ≤ 4) → Q (.ref p) (upd3 H p (.lst (ws.map strD)))
    | none => False)
  | _ => False
theorem u_l_stretches {ns : List Int} {a : Int} {H : Hp3} {Q : VK3} (a0 : 0 ≤ a) (a1 : a < 500) (hl : ns.length ≤ 63) (h : ∀ p (ws : List (List Lt)), H p = none → ws.length ≤ 3 → (∀ w ∈ ws, w ≠ [] ∧ w.length ≤ 4) → Q (.ref p) (upd3 H p (.lst (ws.map strD)))) : sp_l_stretches [.fl (ns.map D.int), .int a] H Q := by
  simp only [sp_l_stretches, intsOf_map]; exact ⟨⟨a0, a1, hl⟩, h⟩
theorem menu_at {i : Nat} {d : D} (h : [D.str "eeens", .str "nnnew", .str "wwwns"][i]? = some d) : i < 3 ∧ ∃ m : List Lt, d = .str (wStr m) ∧ m ≠ [] ∧ m.length ≤ 10 := by
  have hi := (List.getElem?_eq_some_iff.mp h).1
  refine ⟨hi, ?_⟩
  match i, hi with
  | 0, _ => cases h; exact ⟨[0, 0, 0, 1, 3], rfl, by simp, by simp⟩
  | 1, _ => cases h; exact ⟨[1, 1, 1, 0, 2], rfl, by simp, by simp⟩
  | 2, _ => cases h; exact ⟨[2, 2, 2, 1, 3], rfl, by simp, by simp⟩
theorem size_at {c : Int} {i : Nat} (h : i < 3) : ∃ n : Int, atI [D.int (c % 5), .int (c / 5 % 5), .int (c / 25 % 5)] (i : Int) = some (.int n) ∧ 0 ≤ n ∧ n ≤ 4 := by
  match i, h with
  | 0, _ => exact ⟨_, rfl, by omega, by omega⟩
  | 1, _ => exact ⟨_, rfl, by omega, by omega⟩
  | 2, _ => exact ⟨_, rfl, by omega, by omega⟩
theorem len_l_stretches : ∀ (ds : List D) (H : Hp3) (Q : VK3), sp_l_stretches ds H Q → ds.length = P_l_stretches.length := by
  intro ds H Q h
  unfold sp_l_stretches at h
  split at h
  · rfl
  · exact h.elim

def lp_l_stretches_0 : TS3 := fo3 (ien (ls3 (cons3 (c3 (.str "eeens")) (cons3 (c3 (.str "nnnew")) (cons3 (c3 (.str "wwwns")) nil3))))) (g2_3 4 5) (dr3 (m3 r3app (v3 3) (cons3 (cb3 sp_l_letters (cons3 (v3 0) (cons3 (o3 r3add (o3 r3add (v3 1) (c3 (.int 1))) (o3 i3mulW (c3 (.int 4)) (v3 4))) (cons3 (o3 r3ix (ls3 (cons3 (o3 i3mod (v3 2) (c3 (.int 5))) (cons3 (o3 i3mod (o3 i3divW (v3 2) (c3 (.int 5))) (c3 (.int 5))) (cons3 (o3 i3mod (o3 i3divW (v3 2) (c3 (.int 25))) (c3 (.int 5))) nil3)))) (v3 4)) (cons3 (v3 5) nil3))))) nil3)))
def t_l_stretches : TS3 := (sq3 (st3 2 (cb3 sp_l_cell_at (cons3 (v3 0) (cons3 (v3 1) nil3))))
    (sq3 (st3 3 (ls3 nil3))
    (sq3 lp_l_stretches_0
    (rt3 (cp3 (il3 (v3 3)) (gn3 0) (ts3 (o3 r3ne (v3 0) (c3 (.str "")))) (v3 0) ["_law_one"] [])))))
theorem rd_l_stretches : ∀ (ds : List D) (H : Hp3) (Q : VK3), sp_l_stretches ds H Q → t_l_stretches (fin3 Q) (start3 N_l_stretches ds) H := by
  intro ds H Q h
  unfold sp_l_stretches at h
  split at h
  case h_2 => exact h.elim
  rename_i xs a
  split at h
  case h_2 => exact h.elim
  rename_i ns e
  have e' := intsOf_inv e
  subst e'
  obtain ⟨⟨a0, a1, hl⟩, h⟩ := h
  simp only [t_l_stretches, start3, N_l_stretches, List.map_cons, List.map_nil, List.length_cons, List.length_nil, Nat.reduceAdd, Nat.reduceSub, Nat.zero_add, List.replicate, List.cons_append, List.nil_append]
  walk_at "l3"
  intro p hp
  walk_at "l3"
  unfold lp_l_stretches_0
  walk_at "l3"
  intro p1 hp1
  walk_at "l3"
  generalize cat ns a.toNat = c
  have n1 : p ≠ p1 := ne3 upd3_same hp1
  refine Lp.by (fun i σ H2 => Sub3 H H2 ∧ H2 p1 = some (.lst [D.str "eeens", .str "nnnew", .str "wwwns"]) ∧ ∃ ws : List (List Lt), ∃ x y, ws.length = i ∧ (∀ w ∈ ws, w.length ≤ 4) ∧ H2 p = some (.lst (ws.map strD)) ∧ σ = [some (.fl (ns.map D.int)), some (.int a), some (.int c), some (.ref p), x, y]) ⟨(Sub3.fresh hp).trans (Sub3.fresh hp1), upd3_same, [], _, _, rfl, by simp, upd3_old upd3_same hp1, rfl⟩ (fun i σ H2 _ z => z.2.1) ?_ ?_
  · rintro i d σ H2 hd ⟨sb, hp1', ws, x, y, hw, hw4, hH, rfl⟩
    obtain ⟨d', hd', rfl⟩ := en_get hd
    obtain ⟨hi, m, rfl, hm, hm1⟩ := menu_at hd'
    obtain ⟨n, en, n0, n4⟩ := size_at (c := c) hi
    walk_at "l3"
    intro p2 hp2
    walk_at "l3"
    refine g_ixL upd3_same en ?_
    walk_at "l3"
    refine u_l_letters m rfl hm hm1 (by omega) (by omega) n0 (by omega) hl fun w hwl => ?_
    walk_at "l3"
    have np : p ≠ p2 := ne3 hH hp2
    have np1 : p1 ≠ p2 := ne3 hp1' hp2
    refine g_app (upd3_old hH hp2) (small1000' (by rw [List.length_map]; omega)) ?_
    walk_at "l3"
    have h2 : H p2 = none := sub_back sb hp2
    refine ⟨fun q o hq => ?_, by rw [upd3_ne n1.symm, upd3_ne np1]; exact hp1', ws ++ [w], _, _, by rw [List.length_append, hw]; rfl, fun v hv => ?_, by rw [upd3_same, List.map_append]; rfl, rfl⟩
    · rw [upd3_ne (fun e => by rw [e, hp] at hq; cases hq)]
      exact upd3_old (sb q o hq) hp2
    · rcases List.mem_append.mp hv with hv | hv
      · exact hw4 v hv
      · rw [List.mem_singleton.mp hv]; omega
  · rintro σ H2 ⟨sb, hp1', ws, x, y, hw, hw4, hH, rfl⟩
    rw [en_len] at hw
    walk_at "l3"
    refine Cp.filt (E := strD) strD (fun w => !decide (w = [])) (fun H3 hs => hs _ _ hH) (by show _ ≤ 1000; simp at hw; omega) ?_ ?_
    · intro i w hiw R1 R0 H3 hs hy hno
      unfold strD
      walk_at "l3"
      refine g_neW (bs := []) ?_
      refine g_bt ?_
      refine ifN (fun z => ?_) fun z => ?_
      · walk_at "l3"
        exact hy (by simp [z]) H3 Sub3.refl
      · exact hno (by simp [z]) H3 Sub3.refl
    · intro p3 hp3
      have h3 : H p3 = none := sub_back sb hp3
      refine g_fin (h p3 (ws.filter fun w => !decide (w = [])) h3 ?_ fun w hw' => ?_) (sub_upd (sb.upd h3) upd3_same)
      · have := List.length_filter_le (fun w : List Lt => !decide (w = [])) ws
        simp at hw; omega
      · have := List.mem_filter.mp hw'
        exact ⟨by simpa using this.2, hw4 w this.1⟩

theorem endp_rep (l : Lt) : ∀ (n : Nat) (c : Pt), endp c (List.replicate n l) = (c.1 + n * (step l).1, c.2 + n * (step l).2)
  | 0, c => Prod.ext (by show c.1 = c.1 + 0 * _; omega) (by show c.2 = c.2 + 0 * _; omega)
  | n + 1, c => by
    rw [List.replicate_succ]
    show endp (adp (step l) c) (List.replicate n l) = _
    rw [endp_rep l n]
    have e : ((n + 1 : Nat) : Int) = (n : Int) + 1 := by omega
    exact Prod.ext (by show c.1 + (step l).1 + n * _ = c.1 + ((n + 1 : Nat) : Int) * _; rw [e, Int.add_mul]; omega) (by show c.2 + (step l).2 + n * _ = c.2 + ((n + 1 : Nat) : Int) * _; rw [e, Int.add_mul]; omega)
theorem rep_w (l : Lt) (n : Nat) : repZ (lt1 l) n = wStr (List.replicate n l) := by
  unfold repZ wStr
  congr 1
  show (List.replicate n [cp l]).flatten.toArray = _
  rw [List.map_replicate]
  congr 1
  induction n with
  | zero => rfl
  | succ n ih => rw [List.replicate_succ, List.flatten_cons, ih, List.replicate_succ]; rfl
theorem endp_le (ls : List Lt) : -(ls.length : Int) ≤ (endp (0, 0) ls).1 ∧ (endp (0, 0) ls).1 ≤ ls.length ∧ -(ls.length : Int) ≤ (endp (0, 0) ls).2 ∧ (endp (0, 0) ls).2 ≤ ls.length := by
  have key : ∀ (ls : List Lt) (c : Pt), c.1 - ls.length ≤ (endp c ls).1 ∧ (endp c ls).1 ≤ c.1 + ls.length ∧ c.2 - ls.length ≤ (endp c ls).2 ∧ (endp c ls).2 ≤ c.2 + ls.length := by
    intro ls
    induction ls with
    | nil => intro c; refine ⟨?_, ?_, ?_, ?_⟩ <;> (show _ ≤ _; simp [endp])
    | cons l ls ih =>
      intro c
      have := ih (adp (step l) c)
      have s : -1 ≤ (step l).1 ∧ (step l).1 ≤ 1 ∧ -1 ≤ (step l).2 ∧ (step l).2 ≤ 1 := by
        match l with
        | 0 => decide
        | 1 => decide
        | 2 => decide
        | 3 => decide
      have e1 : (adp (step l) c).1 = c.1 + (step l).1 := rfl
      have e2 : (adp (step l) c).2 = c.2 + (step l).2 := rfl
      rw [e1, e2] at this
      have e3 : endp c (l :: ls) = endp (adp (step l) c) ls := rfl
      rw [e3, List.length_cons]
      omega
  have := key ls (0, 0)
  dsimp only at this
  omega
def sp_l_closed : Sp3 := fun ds H Q => match ds with
  | [.str z, .int _] => ∃ ls : List Lt, (z = wStr ls ∧ ls.length ≤ 40) ∧ ∀ v : List Lt, v.length ≤ 200 → endp (0, 0) v = (0, 0) → Q (.str (wStr v)) H
  | _ => False
theorem u_l_closed (ls : List Lt) {k : Int} {H : Hp3} {Q : VK3} (hl : ls.length ≤ 40) (h : ∀ v : List Lt, v.length ≤ 200 → endp (0, 0) v = (0, 0) → Q (.str (wStr v)) H) : sp_l_closed [.str (wStr ls), .int k] H Q := ⟨ls, ⟨rfl, hl⟩, h⟩
theorem pos_le {x : Int} {n : Nat} (h : x ≤ n) : (if x > 0 then x else 0) ≤ n ∧ 0 ≤ (if x > 0 then x else 0) := by split <;> omega
theorem pos_e (x : Int) : ((if x > 0 then x else 0).toNat : Int) = if x > 0 then x else 0 := by split <;> omega
theorem g_mulW {l : Lt} {n : Int} {H : Hp3} {Q : VK3} (h0 : 0 ≤ n) (h1 : n ≤ 1000) (q : Q (.str (wStr (List.replicate n.toNat l))) H) : r3mulZ (.str (lt1 l)) (.int n) H Q :=
  g_mulZ h0 h1 (by show 1 ≤ 1000; omega) (by rw [rep_w]; exact q)
theorem g_addW {as bs : List Lt} {H : Hp3} {Q : VK3} (hl : as.length + bs.length ≤ 1000) (q : Q (.str (wStr (as ++ bs))) H) : r3add (.str (wStr as)) (.str (wStr bs)) H Q :=
  g_addZ (by rw [wStr_len, wStr_len, sizeLine_n]; omega) (by rw [wStr_app]; exact q)
theorem closes {ls ss hs : List Lt} {x y : Int} (hE : endp (0, 0) ls = (x, y)) (hs1 : endp (0, 0) ss = (-x, 0)) (hh : endp (0, 0) hs = (0, -y)) (n : Nat) :
    endp (0, 0) (ls ++ hs ++ ss) = (0, 0) ∧ endp (0, 0) (ls ++ ss.take n ++ hs ++ ss.drop n) = (0, 0) := by
  have e : endp (0, 0) (ss.take n ++ ss.drop n) = (-x, 0) := by rw [List.take_append_drop]; exact hs1
  generalize ss.take n = t at e ⊢
  generalize ss.drop n = d at e ⊢
  rw [endp_app, endp_way] at e
  have e1 : (endp (0, 0) t).1 + (endp (0, 0) d).1 = -x := congrArg Prod.fst e
  have e2 : (endp (0, 0) t).2 + (endp (0, 0) d).2 = 0 := congrArg Prod.snd e
  constructor
  · rw [endp_app, endp_app, hE, endp_way _ hs, endp_way _ ss, hs1, hh]
    exact Prod.ext (by show x + 0 + -x = 0; omega) (by show y + -y + 0 = 0; omega)
  · rw [endp_app, endp_app, endp_app, hE, endp_way _ t, endp_way _ hs, endp_way _ d, hh]
    exact Prod.ext (by show x + (endp (0, 0) t).1 + 0 + (endp (0, 0) d).1 = 0; omega) (by show y + (endp (0, 0) t).2 + -y + (endp (0, 0) d).2 = 0; omega)
theorem side_x (x : Int) : endp (0, 0) (List.replicate (if x > 0 then x else 0).toNat (2 : Lt) ++ List.replicate (if 0 - x > 0 then 0 - x else 0).toNat (0 : Lt)) = (-x, 0) := by
  rw [endp_app, endp_rep, endp_rep, pos_e, pos_e]
  refine Prod.ext ?_ ?_
  · show 0 + (if x > 0 then x else 0) * -1 + (if 0 - x > 0 then 0 - x else 0) * 1 = -x
    split <;> split <;> omega
  · show 0 + (if x > 0 then x else 0) * 0 + (if 0 - x > 0 then 0 - x else 0) * 0 = 0
    omega
theorem side_y (y : Int) : endp (0, 0) (List.replicate (if y > 0 then y else 0).toNat (3 : Lt) ++ List.replicate (if 0 - y > 0 then 0 - y else 0).toNat (1 : Lt)) = (0, -y) := by
  rw [endp_app, endp_rep, endp_rep, pos_e, pos_e]
  refine Prod.ext ?_ ?_
  · show 0 + (if y > 0 then y else 0) * 0 + (if 0 - y > 0 then 0 - y else 0) * 0 = 0
    omega
  · show 0 + (if y > 0 then y else 0) * -1 + (if 0 - y > 0 then 0 - y else 0) * 1 = -y
    split <;> split <;> omega
theorem side_len {x : Int} {n : Nat} (h0 : -(n : Int) ≤ x) (h1 : x ≤ n) (a b : Lt) : (List.replicate (if x > 0 then x else 0).toNat a ++ List.replicate (if 0 - x > 0 then 0 - x else 0).toNat b).length ≤ n := by
  rw [List.length_append, List.length_replicate, List.length_replicate]
  split <;> split <;> omega
theorem len_l_closed : ∀ (ds : List D) (H : Hp3) (Q : VK3), sp_l_closed ds H Q → ds.length = P_l_closed.length := by
  intro ds H Q h
  unfold sp_l_closed at h
  split at h
  · rfl
  · exact h.elim

def t_l_closed : TS3 := (sq3 (as3 (o3 r3ix (cb3 sp_l_path (cons3 (tp3 (cons3 (c3 (.int 0)) (cons3 (c3 (.int 0)) nil3))) (cons3 (v3 0) nil3))) (u3 r3neg (c3 (.int 1)))) (g2_3 2 3))
    (sq3 (st3 4 (o3 r3add (o3 r3mulZ (c3 (.str "w")) (cb3 r3max2 (cons3 (c3 (.int 0)) (cons3 (v3 2) nil3)))) (o3 r3mulZ (c3 (.str "e")) (cb3 r3max2 (cons3 (c3 (.int 0)) (cons3 (o3 i3sub (c3 (.int 0)) (v3 2)) nil3))))))
    (sq3 (st3 5 (o3 r3add (o3 r3mulZ (c3 (.str "s")) (cb3 r3max2 (cons3 (c3 (.int 0)) (cons3 (v3 3) nil3)))) (o3 r3mulZ (c3 (.str "n")) (cb3 r3max2 (cons3 (c3 (.int 0)) (cons3 (o3 i3sub (c3 (.int 0)) (v3 3)) nil3))))))
    (sq3 (is3 (ts3 (o3 r3eq (o3 i3mod (v3 1) (c3 (.int 2))) (c3 (.int 1)))) (rt3 (o3 r3add (o3 r3add (v3 0) (v3 5)) (v3 4))) nx3)
    (sq3 (st3 6 (o3 i3mod (o3 i3divW (v3 1) (c3 (.int 2))) (o3 r3add (cb3 r3len (cons3 (v3 4) nil3)) (c3 (.int 1)))))
    (rt3 (o3 r3add (o3 r3add (o3 r3add (v3 0) (sl3 r3slZ (v3 4) np3 (pt3 (v3 6)))) (v3 5)) (sl3 r3slZ (v3 4) (pt3 (v3 6)) np3))))))))
theorem rd_l_closed : ∀ (ds : List D) (H : Hp3) (Q : VK3), sp_l_closed ds H Q → t_l_closed (fin3 Q) (start3 N_l_closed ds) H := by
  intro ds H Q h
  unfold sp_l_closed at h
  split at h
  case h_2 => exact h.elim
  rename_i z k
  obtain ⟨ls, ⟨rfl, hl⟩, h⟩ := h
  obtain ⟨b1, b2, b3, b4⟩ := endp_le ls
  simp only [t_l_closed, start3, N_l_closed, List.map_cons, List.map_nil, List.length_cons, List.length_nil, Nat.reduceAdd, Nat.reduceSub, Nat.zero_add, List.replicate, List.cons_append, List.nil_append]
  walk_at "l3"
  refine u_l_path ls (by omega) fun p hp => ?_
  walk_at "l3"
  refine g_ixL upd3_same (path_last _ _) ?_
  generalize hE : endp (0, 0) ls = E at b1 b2 b3 b4
  obtain ⟨x, y⟩ := E
  dsimp only at b1 b2 b3 b4
  walk_at "l3"
  refine g_mulW (l := 2) (pos_le b2).2 (by have := (pos_le b2).1; omega) ?_
  walk_at "l3"
  have b1' : 0 - x ≤ (ls.length : Int) := by omega
  have b3' : 0 - y ≤ (ls.length : Int) := by omega
  have lx := side_len b1 b2 2 0
  have ly := side_len b3 b4 3 1
  have ex := side_x x
  have ey := side_y y
  refine g_mulW (l := 0) (pos_le b1').2 (by have := (pos_le b1').1; omega) ?_
  walk_at "l3"
  refine g_addW (by rw [← List.length_append]; omega) ?_
  walk_at "l3"
  refine g_mulW (l := 3) (pos_le b4).2 (by have := (pos_le b4).1; omega) ?_
  walk_at "l3"
  refine g_mulW (l := 1) (pos_le b3').2 (by have := (pos_le b3').1; omega) ?_
  walk_at "l3"
  refine g_addW (by rw [← List.length_append]; omega) ?_
  generalize List.replicate (if x > 0 then x else 0).toNat (2 : Lt) ++ List.replicate (if 0 - x > 0 then 0 - x else 0).toNat (0 : Lt) = ss at lx ex
  generalize List.replicate (if y > 0 then y else 0).toNat (3 : Lt) ++ List.replicate (if 0 - y > 0 then 0 - y else 0).toNat (1 : Lt) = hs at ly ey
  walk_at "l3"
  refine ifD (fun h1 => ?_) fun h1 => ?_
  · walk_at "l3"
    refine g_addW (by omega) ?_
    walk_at "l3"
    refine g_addW (by rw [List.length_append]; omega) ?_
    walk_at "l3"
    exact g_fin (h _ (by rw [List.length_append, List.length_append]; omega) (closes hE ex ey 0).1) (Sub3.fresh hp)
  · walk_at "l3"
    refine g_lenW (by omega) ?_
    walk_at "l3"
    obtain ⟨n, hn⟩ := Int.eq_ofNat_of_zero_le (Int.emod_nonneg (k / 2) (b := (ss.length : Int) + 1) (by omega))
    rw [hn]
    refine g_slZ (wStr_le _ (by omega)) ?_
    rw [cut_take]
    walk_at "l3"
    have lt : (ss.take n).length ≤ ss.length := by rw [List.length_take]; omega
    have ld : (ss.drop n).length ≤ ss.length := by rw [List.length_drop]; omega
    refine g_addW (by omega) ?_
    walk_at "l3"
    refine g_addW (by rw [List.length_append]; omega) ?_
    walk_at "l3"
    refine g_slZ (wStr_le _ (by omega)) ?_
    rw [cut_drop]
    walk_at "l3"
    refine g_addW (by rw [List.length_append, List.length_append]; omega) ?_
    walk_at "l3"
    exact g_fin (h _ (by rw [List.length_append, List.length_append, List.length_append]; omega) (closes hE ex ey n).2) (Sub3.fresh hp)

def sp_l_right : Sp3 := fun ds H Q => match ds with
  | [.str z, .tup xs, .ref a, .bl f] => (∃ (W : List Lt) (cs : List Int), (z = wStr W ∧ xs = cs.map D.int ∧ 4 ≤ W.length ∧ W.length ≤ 240 ∧ Cts cs ((W.length : Int) / 2) ∧ endp (0, 0) W = (0, 0)) ∧ H a = some (.lst ((spn cs ((W.length : Int) / 2)).map fun s => prP (sh W ((W.length : Int) / 2) s))) ∧ (f = true → (∀ s ∈ spn cs ((W.length : Int) / 2), Fel W ((W.length : Int) / 2) s) ∧ W.length % 2 = 0)) ∧ Q (.bl true) H
  | _ => False
theorem u_l_right {W : List Lt} {cs : List Int} {a : Addr} {f : Bool} {H : Hp3} {Q : VK3} (h4 : 4 ≤ W.length) (hl : W.length ≤ 240) (hc : Cts cs ((W.length : Int) / 2)) (hW : endp (0, 0) W = (0, 0)) (ha : H a = some (.lst ((spn cs ((W.length : Int) / 2)).map fun s => prP (sh W ((W.length : Int) / 2) s)))) (hf : f = true → (∀ s ∈ spn cs ((W.length : Int) / 2), Fel W ((W.length : Int) / 2) s) ∧ W.length % 2 = 0) (h : Q (.bl true) H) : sp_l_right [.str (wStr W), .tup (cs.map D.int), .ref a, .bl f] H Q := ⟨⟨W, cs, ⟨rfl, rfl, h4, hl, hc, hW⟩, ha, hf⟩, h⟩
theorem len_l_right : ∀ (ds : List D) (H : Hp3) (Q : VK3), sp_l_right ds H Q → ds.length = P_l_right.length := by
  intro ds H Q h
  unfold sp_l_right at h
  split at h
  · rfl
  · exact h.elim

def lp_l_right_0 : TS3 := fo3 (ir1 (v3 8)) (gn3 9) (sq3 (st3 10 (o3 r3ix (v3 5) (o3 r3add (o3 r3ix (v3 1) (v3 6)) (v3 9))))
    (sq3 (st3 11 (o3 r3ix (v3 5) (o3 i3sub (o3 r3add (v3 7) (v3 4)) (v3 9))))
    (is3 (no3 (ts3 (cb3 sp_l_pair (cons3 (o3 r3ix (v3 2) (v3 6)) (cons3 (tp3 (cons3 (o3 i3sub (o3 r3ix (v3 10) (c3 (.int 0))) (o3 r3ix (v3 11) (c3 (.int 0)))) (cons3 (o3 i3sub (o3 r3ix (v3 10) (c3 (.int 1))) (o3 r3ix (v3 11) (c3 (.int 1)))) nil3))) nil3))))) (rt3 (c3 (.bl false))) nx3)))
def lp_l_right_1 : TS3 := fo3 (ir1 (cb3 r3len (cons3 (v3 1) nil3))) (gn3 6) (sq3 (st3 7 (o3 r3add (o3 r3ix (v3 1) (c3 (.int 0))) (v3 4)))
    (sq3 (is3 (ts3 (o3 r3lt (v3 6) (o3 i3sub (cb3 r3len (cons3 (v3 1) nil3)) (c3 (.int 1))))) (st3 7 (o3 r3ix (v3 1) (o3 r3add (v3 6) (c3 (.int 1))))) nx3)
    (sq3 (st3 8 (c3 (.int 1)))
    (sq3 (is3 (ts3 (v3 3)) (st3 8 (o3 r3add (o3 i3sub (v3 7) (o3 r3ix (v3 1) (v3 6))) (c3 (.int 1)))) nx3)
    lp_l_right_0))))
def t_l_right : TS3 := (sq3 (st3 4 (o3 i3divW (cb3 r3len (cons3 (v3 0) nil3)) (c3 (.int 2))))
    (sq3 (st3 5 (cb3 sp_l_path (cons3 (tp3 (cons3 (c3 (.int 0)) (cons3 (c3 (.int 0)) nil3))) (cons3 (o3 r3add (v3 0) (v3 0)) nil3))))
    (sq3 (is3 (or3 (no3 (ts3 (cb3 r3isi (cons3 (v3 2) (cons3 (c3 (.ty "list")) nil3))))) (ts3 (o3 r3ne (cb3 r3len (cons3 (v3 2) nil3)) (cb3 r3len (cons3 (v3 1) nil3))))) (rt3 (c3 (.bl false))) nx3)
    (sq3 lp_l_right_1
    (sq3 (is3 (an3 (ts3 (v3 3)) (ts3 (o3 r3eq (cb3 r3len (cons3 (v3 2) nil3)) (c3 (.int 3))))) (rt3 (cb3 sp_l_pair (cons3 (o3 r3ix (v3 2) (c3 (.int 1))) (cons3 (tp3 (cons3 (o3 r3add (o3 r3ix (o3 r3ix (v3 2) (c3 (.int 0))) (c3 (.int 0))) (o3 r3ix (o3 r3ix (v3 2) (c3 (.int 2))) (c3 (.int 0)))) (cons3 (o3 r3add (o3 r3ix (o3 r3ix (v3 2) (c3 (.int 0))) (c3 (.int 1))) (o3 r3ix (o3 r3ix (v3 2) (c3 (.int 2))) (c3 (.int 1)))) nil3))) nil3)))) nx3)
    (rt3 (c3 (.bl true))))))))
theorem rd_l_right : ∀ (ds : List D) (H : Hp3) (Q : VK3), sp_l_right ds H Q → t_l_right (fin3 Q) (start3 N_l_right ds) H := by
  intro ds H Q h
  unfold sp_l_right at h
  split at h
  case h_2 => exact h.elim
  rename_i z xs a f
  obtain ⟨⟨W, cs, ⟨rfl, rfl, h4, hl, hc, hW⟩, ha, hf⟩, h⟩ := h
  have hcl := hc.len
  have hn := hc.ne
  simp only [t_l_right, start3, N_l_right, List.map_cons, List.map_nil, List.length_cons, List.length_nil, Nat.reduceAdd, Nat.reduceSub, Nat.zero_add, List.replicate, List.cons_append, List.nil_append]
  walk_at "l3"
  refine g_lenW (by omega) ?_
  walk_at "l3"
  refine g_addZ (by rw [wStr_len, sizeLine_n]; omega) ?_
  rw [wStr_app]
  walk_at "l3"
  refine u_l_path (W ++ W) (by rw [List.length_append]; omega) fun p hp => ?_
  have ha1 : upd3 H p (.lst ((path (0, 0) (W ++ W)).map prP)) a = _ := upd3_old ha hp
  have hs1 : Sub3 H (upd3 H p (.lst ((path (0, 0) (W ++ W)).map prP))) := Sub3.fresh hp
  have hp1 : upd3 H p (.lst ((path (0, 0) (W ++ W)).map prP)) p = some (.lst ((path (0, 0) (W ++ W)).map prP)) := upd3_same
  generalize upd3 H p (.lst ((path (0, 0) (W ++ W)).map prP)) = H1 at *
  generalize hL : (W.length : Int) / 2 = L at *
  have hLW : L + L ≤ W.length := by omega
  walk_at "l3"
  refine g_isi (U := "list") (by simp only [tyH, ha1]) (by simp [kinds]) ?_
  walk_at "l3"
  refine ifX rfl ?_
  walk_at "l3"
  rw [List.length_map, spn_len hn, List.length_map]
  refine ifN (fun z => absurd rfl z) fun _ => ?_
  walk_at "l3"
  unfold lp_l_right_1
  walk_at "l3"
  rw [List.length_map, Int.toNat_natCast]
  refine Lp.rng (fun i σ H2 => H2 = H1 ∧ ∃ x6 x7 x8 x9 x10 x11, σ = [some (.str (wStr W)), some (.tup (cs.map D.int)), some (.ref a), some (.bl f), some (.int L), some (.ref p), x6, x7, x8, x9, x10, x11]) ⟨rfl, _, _, _, _, _, _, rfl⟩ ?_ ?_
  · rintro i σ H2 hi ⟨rfl, x6, x7, x8, x9, x10, x11, rfl⟩
    rw [Int.zero_add]
    have gi : atI (cs.map D.int) (i : Int) = some (.int cs[i]) := atI_map (f := D.int) (by omega) (by rw [Int.toNat_natCast]; exact hi)
    have hsp := spn_get (L := L) hn hi
    generalize hq : (if (i : Int) < (cs.length : Int) - 1 then cs.getD (i + 1) 0 else cs.headD 0 + L) = q at hsp
    have hmem := List.mem_of_getElem? hsp
    obtain ⟨b1, b2, b3, b4⟩ := hc.spn _ hmem
    dsimp only at b1 b2 b3 b4
    have gf : atI ((spn cs L).map fun s => prP (sh W L s)) (i : Int) = some (.tup [.int (sh W L (cs[i], q)).1, .int (sh W L (cs[i], q)).2]) := by
      rw [atI_map (by omega) (by rw [Int.toNat_natCast, spn_len hn]; exact hi)]
      simp only [Int.toNat_natCast]
      have := (List.getElem?_eq_some_iff.mp hsp).2
      rw [this]; rfl
    have inner : ∀ (E0 : Ends3) (m : Int) (x9 x10 x11 : Option D), (∀ x6 x7 x8 x9 x10 x11, E0.nx [some (.str (wStr W)), some (.tup (cs.map D.int)), some (.ref a), some (.bl f), some (.int L), some (.ref p), x6, x7, x8, x9, x10, x11] H2) → (∀ t : Nat, (t : Int) < m → dif (pw W (cs[i] + t).toNat) (pw W (q + L - t).toNat) = sh W L (cs[i], q) ∧ (t : Int) ≤ q - cs[i]) → lp_l_right_0 E0 [some (.str (wStr W)), some (.tup (cs.map D.int)), some (.ref a), some (.bl f), some (.int L), some (.ref p), some (.int i), some (.int q), some (.int m), x9, x10, x11] H2 := by
      intro E0 m y9 y10 y11 hE hm
      unfold lp_l_right_0
      walk_at "l3"
      refine Lp.rng (fun j σ H3 => H3 = H2 ∧ ∃ x9 x10 x11, σ = [some (.str (wStr W)), some (.tup (cs.map D.int)), some (.ref a), some (.bl f), some (.int L), some (.ref p), some (.int i), some (.int q), some (.int m), x9, x10, x11]) ⟨rfl, _, _, _, rfl⟩ ?_ ?_
      · rintro t σ H3 ht ⟨rfl, z9, z10, z11, rfl⟩
        rw [Int.zero_add]
        obtain ⟨m1, m2⟩ := hm t (by omega)
        walk_at "l3"
        refine g_ixT gi ?_
        walk_at "l3"
        refine g_ixL hp1 (path_pw2 hW (by omega) (by omega)) ?_
        walk_at "l3"
        refine g_ixL hp1 (path_pw2 hW (by omega) (by omega)) ?_
        walk_at "l3"
        refine g_ixL ha1 gf ?_
        walk_at "l3"
        refine ifN (fun z => absurd m1.symm z) fun _ => ?_
        walk_at "l3"
        exact ⟨rfl, _, _, _, rfl⟩
      · rintro σ H3 ⟨rfl, z9, z10, z11, rfl⟩
        exact hE _ _ _ _ _ _
    have last : ∀ (E0 : Ends3) (x8 x9 x10 x11 : Option D), (∀ x6 x7 x8 x9 x10 x11, E0.nx [some (.str (wStr W)), some (.tup (cs.map D.int)), some (.ref a), some (.bl f), some (.int L), some (.ref p), x6, x7, x8, x9, x10, x11] H2) →
        (sq3 (st3 8 (c3 (.int 1)))
        (sq3 (is3 (ts3 (v3 3)) (st3 8 (o3 r3add (o3 i3sub (v3 7) (o3 r3ix (v3 1) (v3 6))) (c3 (.int 1)))) nx3)
        lp_l_right_0)) E0 [some (.str (wStr W)), some (.tup (cs.map D.int)), some (.ref a), some (.bl f), some (.int L), some (.ref p), some (.int i), some (.int q), x8, x9, x10, x11] H2 := by
      intro E0 y8 y9 y10 y11 hE
      walk_at "l3"
      refine ifB (fun ef => ?_) fun ef => ?_
      · refine g_st (g_o3 (g_o3 (g_v3 rfl (g_o3 (g_v3 rfl (g_v3 rfl ?_))))))
        refine g_ixT gi ?_
        refine g_sub (g_c3 (g_add (g_nx ?_)))
        dsimp only [List.set_cons_zero, List.set_cons_succ]
        exact inner _ _ _ _ _ hE fun t ht => ⟨(hf ef).1 _ hmem t (by dsimp only; omega), by omega⟩
      · refine g_nx3 (g_nx ?_)
        dsimp only [List.set_cons_zero, List.set_cons_succ]
        refine inner _ _ _ _ _ hE fun t ht => ?_
        have : t = 0 := by omega
        subst this
        exact ⟨by unfold sh; simp, by omega⟩
    walk_at "l3"
    refine g_ixT (atI_0 hn) ?_
    walk_at "l3"
    rw [List.length_map]
    refine ifD (fun z => ?_) fun z => ?_
    · have gj : atI (cs.map D.int) ((i : Int) + 1) = some (.int (cs.getD (i + 1) 0)) := by
        have := atI_n (cs := cs) (i := i + 1) (by omega)
        rw [show ((i : Int) + 1) = ((i + 1 : Nat) : Int) from by omega]
        exact this
      refine g_st (g_o3 (g_v3 rfl (g_o3 (g_v3 rfl (g_c3 (g_add ?_))))))
      refine g_ixT gj ?_
      refine g_nx ?_
      dsimp only [List.set_cons_zero, List.set_cons_succ]
      rw [if_pos z] at hq
      rw [hq]
      exact last _ _ _ _ _ (fun _ _ _ _ _ _ => ⟨rfl, _, _, _, _, _, _, rfl⟩)
    · refine g_nx3 (g_nx ?_)
      rw [if_neg z] at hq
      rw [hq]
      exact last _ _ _ _ _ (fun _ _ _ _ _ _ => ⟨rfl, _, _, _, _, _, _, rfl⟩)
  · rintro σ H2 ⟨rfl, x6, x7, x8, x9, x10, x11, rfl⟩
    walk_at "l3"
    refine ifB (fun ef => ?_) fun ef => ?_
    · walk_at "l3"
      rw [List.length_map, spn_len hn]
      refine ifD (fun z => ?_) fun z => ?_
      · obtain ⟨hF, hev⟩ := hf ef
        have z3 : cs.length = 3 := by omega
        clear z
        rcases cs with _ | ⟨c1, _ | ⟨c2, _ | ⟨d3, _ | _⟩⟩⟩ <;> simp at z3
        have r1 := hc.rng c1 (by simp)
        have r2 := hc.rng c2 (by simp)
        have r3 := hc.rng d3 (by simp)
        have hs := hc.srt
        simp only [List.pairwise_cons, List.mem_cons, List.not_mem_nil, or_false, forall_eq_or_imp, forall_eq] at hs
        have hs23 : c2 < d3 := hs.2.1
        have es : spn [c1, c2, d3] L = [(c1, c2), (c2, d3), (d3, c1 + L)] := rfl
        rw [es] at ha1 hF
        have mid := mid_sum (W := W) (L := L) (a := c1) (b := c2) (d := d3) (by omega) (by omega) r1.1 r2.1 r1.2 (by omega) (hF _ (by simp))
        walk_at "l3"
        refine g_ixL ha1 (d := .tup [.int (sh W L (c2, d3)).1, .int (sh W L (c2, d3)).2]) rfl ?_
        walk_at "l3"
        refine g_ixL ha1 (d := .tup [.int (sh W L (c1, c2)).1, .int (sh W L (c1, c2)).2]) rfl ?_
        walk_at "l3"
        refine g_ixL ha1 (d := .tup [.int (sh W L (d3, c1 + L)).1, .int (sh W L (d3, c1 + L)).2]) rfl ?_
        walk_at "l3"
        refine g_ixL ha1 (d := .tup [.int (sh W L (c1, c2)).1, .int (sh W L (c1, c2)).2]) rfl ?_
        walk_at "l3"
        refine g_ixL ha1 (d := .tup [.int (sh W L (d3, c1 + L)).1, .int (sh W L (d3, c1 + L)).2]) rfl ?_
        walk_at "l3"
        rw [decide_eq_true (show ((sh W L (c2, d3)).1, (sh W L (c2, d3)).2) = _ from mid)]
        exact g_fin h hs1
      · walk_at "l3"
        exact g_fin h hs1
    · walk_at "l3"
      exact g_fin h hs1

def sp_law : Sp3 := fun ds H Q => match ds with
  | [.fl xs] => (match intsOf xs with
    | some ns => ns.length ≤ 63 ∧ ∀ H' : Hp3, Q (.bl true) H'
    | none => False)
  | _ => False
theorem begin_law {ns : List Int} (h : ns.length ≤ 63) : sp_law [.fl (ns.map D.int)] (fun _ => none) (fun d _ => d = .bl true) := by
  simp only [sp_law, intsOf_map]
  exact ⟨h, fun _ => trivial⟩
theorem ewns_w : Str.ofString "ewns" = wStr [0, 2, 1, 3] := rfl
theorem len_law : ∀ (ds : List D) (H : Hp3) (Q : VK3), sp_law ds H Q → ds.length = P_law.length := by
  intro ds H Q h
  unfold sp_law at h
  split at h
  · rfl
  · exact h.elim

def t_law : TS3 := (sq3 (st3 1 (cb3 sp_l_cell_at (cons3 (v3 0) (cons3 (c3 (.int 0)) nil3))))
    (sq3 (st3 2 (cb3 sp_l_stretches (cons3 (v3 0) (cons3 (c3 (.int 2)) nil3))))
    (sq3 (is3 (ts3 (o3 r3lt (cb3 r3len (cons3 (v3 2) nil3)) (c3 (.int 2)))) (st3 2 (ls3 (cons3 (c3 (.str "e")) (cons3 (c3 (.str "n")) nil3)))) nx3)
    (sq3 (as3 (cb3 sp_l_built (cons3 (v3 2) (cons3 (o3 i3mod (o3 i3divW (v3 1) (c3 (.int 2))) (c3 (.int 24))) nil3))) (g2_3 3 4))
    (sq3 (st3 5 (o3 r3eq (o3 i3mod (v3 1) (c3 (.int 2))) (c3 (.int 0))))
    (sq3 (is3 (no3 (ts3 (v3 5))) (sq3 (st3 3 (cb3 sp_l_closed (cons3 (cb3 sp_l_word (cons3 (v3 0) (cons3 (c3 (.int 2)) (cons3 (o3 r3add (c3 (.int 2)) (o3 i3mod (o3 i3divW (v3 1) (c3 (.int 2))) (c3 (.int 29)))) nil3)))) (cons3 (o3 i3divW (v3 1) (c3 (.int 58))) nil3))))
    (sq3 (is3 (ts3 (o3 r3lt (cb3 r3len (cons3 (v3 3) nil3)) (c3 (.int 4)))) (st3 3 (o3 r3add (c3 (.str "ewns")) (v3 3))) nx3)
    (st3 4 (cb3 sp_l_cuts (cons3 (o3 i3mod (o3 i3mulW (cb3 sp_l_cell_at (cons3 (v3 0) (cons3 (c3 (.int 1)) nil3))) (c3 (.int 48271))) (c3 (.int 1000000007))) (cons3 (o3 i3divW (cb3 r3len (cons3 (v3 3) nil3)) (c3 (.int 2))) nil3)))))) nx3)
    (sq3 (st3 6 (cb3 sp_shifts_by (cons3 (v3 3) (cons3 (v3 4) nil3))))
    (sq3 (is3 (no3 (ts3 (cb3 sp_l_right (cons3 (v3 3) (cons3 (v3 4) (cons3 (v3 6) (cons3 (v3 5) nil3))))))) (rt3 (c3 (.bl false))) nx3)
    (sq3 (dr3 (m3 r3clr (v3 6) nil3))
    (rt3 (cb3 sp_l_right (cons3 (v3 3) (cons3 (v3 4) (cons3 (cb3 sp_shifts_by (cons3 (v3 3) (cons3 (v3 4) nil3))) (cons3 (v3 5) nil3)))))))))))))))
theorem rd_law : ∀ (ds : List D) (H : Hp3) (Q : VK3), sp_law ds H Q → t_law (fin3 Q) (start3 N_law ds) H := by
  intro ds H Q h
  unfold sp_law at h
  split at h
  case h_2 => exact h.elim
  split at h
  case h_2 => exact h.elim
  rename_i ns e
  have e' := intsOf_inv e
  subst e'
  obtain ⟨hl, h⟩ := h
  simp only [t_law, start3, N_law, List.map_cons, List.map_nil, List.length_cons, List.length_nil, Nat.reduceAdd, Nat.reduceSub, Nat.zero_add, List.replicate, List.cons_append, List.nil_append]
  walk_at "l3"
  generalize cat ns (Int.toNat 0) = c
  refine u_l_stretches (by omega) (by omega) hl fun p ws hp hw3 hw => ?_
  have fin : ∀ (W : List Lt) (cs : List Int) (f : Bool) (x1 x2 : Option D) (H2 : Hp3), 4 ≤ W.length → W.length ≤ 240 → Cts cs ((W.length : Int) / 2) → endp (0, 0) W = (0, 0) → (f = true → (∀ s ∈ spn cs ((W.length : Int) / 2), Fel W ((W.length : Int) / 2) s) ∧ W.length % 2 = 0) →
      (sq3 (st3 6 (cb3 sp_shifts_by (cons3 (v3 3) (cons3 (v3 4) nil3))))
      (sq3 (is3 (no3 (ts3 (cb3 sp_l_right (cons3 (v3 3) (cons3 (v3 4) (cons3 (v3 6) (cons3 (v3 5) nil3))))))) (rt3 (c3 (.bl false))) nx3)
      (sq3 (dr3 (m3 r3clr (v3 6) nil3))
      (rt3 (cb3 sp_l_right (cons3 (v3 3) (cons3 (v3 4) (cons3 (cb3 sp_shifts_by (cons3 (v3 3) (cons3 (v3 4) nil3))) (cons3 (v3 5) nil3)))))))))  (fin3 Q) [some (.fl (ns.map D.int)), x1, x2, some (.str (wStr W)), some (.tup (cs.map D.int)), some (.bl f), none] H2 := by
    intro W cs f x1 x2 H2 h4 hW hc hclo hf
    walk_at "l3"
    refine u_shifts_by h4 hW hc hclo fun p1 hp1 => ?_
    walk_at "l3"
    refine u_l_right h4 hW hc hclo upd3_same hf ?_
    walk_at "l3"
    refine ifX rfl ?_
    walk_at "l3"
    refine g_clr upd3_same ?_
    rw [upd3_upd3]
    walk_at "l3"
    refine u_shifts_by h4 hW hc hclo fun p2 hp2 => ?_
    walk_at "l3"
    refine u_l_right h4 hW hc hclo upd3_same hf ?_
    exact g_fin (h _) Sub3.refl
  have blt : ∀ (W : List Lt) (cs : List Int), Blt W cs → endp (0, 0) W = (0, 0) → ∀ s ∈ spn cs ((W.length : Int) / 2), Fel W ((W.length : Int) / 2) s := by
    intro W cs hB hclo s hs
    have hb := hB.cts.spn s hs
    have hbl := hB.len
    exact fel_of hclo (by omega) hb.1 (by omega) (by omega) (hB.fel s hs)
  have cls : ∀ (V : List Lt), endp (0, 0) V = (0, 0) → endp (0, 0) ([0, 2, 1, 3] ++ V) = (0, 0) := by
    intro V hV
    rw [endp_app]
    exact hV
  walk_at "l3"
  refine ifD (fun z => ?_) fun z => ?_
  · walk_at "l3"
    intro q hq
    walk_at "l3"
    refine u_l_built [[0], [1]] upd3_same (.inl rfl) (by simp) (by omega) fun W cs hB hclo hev => ?_
    walk_at "l3"
    refine ifN (fun z => ?_) fun z => ?_
    · walk_at "l3"
      refine u_l_word (by omega) (by omega) (by omega) (by omega) hl fun V hV => ?_
      walk_at "l3"
      refine u_l_closed V (by omega) fun U hU hclo2 => ?_
      walk_at "l3"
      refine g_lenW (by omega) ?_
      walk_at "l3"
      refine ifD (fun y => ?_) fun y => ?_
      · walk_at "l3"
        rw [ewns_w]
        refine g_addZ (by rw [wStr_len, wStr_len, sizeLine_n]; show 4 + _ ≤ _; omega) ?_
        rw [wStr_app]
        have l4 : ([0, 2, 1, 3] ++ U).length = 4 + U.length := by rw [List.length_append]; rfl
        walk_at "l3"
        refine g_lenW (by omega) ?_
        walk_at "l3"
        refine u_l_cuts (by omega) (by omega) fun ds hc => ?_
        refine g_nx ?_
        exact fin _ ds _ _ _ _ (by omega) (by omega) hc (cls U hclo2) fun ef => absurd (of_decide_eq_true ef) z
      · walk_at "l3"
        refine g_lenW (by omega) ?_
        walk_at "l3"
        refine u_l_cuts (by omega) (by omega) fun ds hc => ?_
        refine g_nx ?_
        exact fin _ ds _ _ _ _ (by omega) (by omega) hc hclo2 fun ef => absurd (of_decide_eq_true ef) z
    · refine g_nx3 (g_nx ?_)
      exact fin W cs _ _ _ _ hB.len.1 (by have := hB.len; omega) hB.cts hclo fun _ => ⟨blt W cs hB hclo, hev⟩
  · walk_at "l3"
    rw [List.length_map] at z
    refine u_l_built ws upd3_same (by omega) (fun w hm => ⟨List.length_pos_iff.mpr (hw w hm).1, (hw w hm).2⟩) (by omega) fun W cs hB hclo hev => ?_
    walk_at "l3"
    refine ifN (fun z => ?_) fun z => ?_
    · walk_at "l3"
      refine u_l_word (by omega) (by omega) (by omega) (by omega) hl fun V hV => ?_
      walk_at "l3"
      refine u_l_closed V (by omega) fun U hU hclo2 => ?_
      walk_at "l3"
      refine g_lenW (by omega) ?_
      walk_at "l3"
      refine ifD (fun y => ?_) fun y => ?_
      · walk_at "l3"
        rw [ewns_w]
        refine g_addZ (by rw [wStr_len, wStr_len, sizeLine_n]; show 4 + _ ≤ _; omega) ?_
        rw [wStr_app]
        have l4 : ([0, 2, 1, 3] ++ U).length = 4 + U.length := by rw [List.length_append]; rfl
        walk_at "l3"
        refine g_lenW (by omega) ?_
        walk_at "l3"
        refine u_l_cuts (by omega) (by omega) fun ds hc => ?_
        refine g_nx ?_
        exact fin _ ds _ _ _ _ (by omega) (by omega) hc (cls U hclo2) fun ef => absurd (of_decide_eq_true ef) z
      · walk_at "l3"
        refine g_lenW (by omega) ?_
        walk_at "l3"
        refine u_l_cuts (by omega) (by omega) fun ds hc => ?_
        refine g_nx ?_
        exact fin _ ds _ _ _ _ (by omega) (by omega) hc hclo2 fun ef => absurd (of_decide_eq_true ef) z
    · refine g_nx3 (g_nx ?_)
      exact fin W cs _ _ _ _ hB.len.1 (by have := hB.len; omega) hB.cts hclo fun _ => ⟨blt W cs hB hclo, hev⟩

def top (i : Nat) : Stmt := PySem.Challenge.pw_borderfloor_k42_shifts_of_a_parting.main.body.getD i (.Pass ⟨0, 0, 0, 0⟩)
abbrev s_added : Stmt := top 1
abbrev s_taken : Stmt := top 2
abbrev s_corners_of : Stmt := top 5
abbrev s_spans_of : Stmt := top 7
abbrev s_shifts_by : Stmt := top 8
abbrev s_l_cell_at : Stmt := top 10
abbrev s_l_step : Stmt := top 11
abbrev s_l_whole : Stmt := top 12
abbrev s_l_pair : Stmt := top 13
abbrev s_l_path : Stmt := top 14
abbrev s_l_back : Stmt := top 15
abbrev s_l_word : Stmt := top 16
abbrev s_l_letters : Stmt := top 17
abbrev s_l_stretches : Stmt := top 18
abbrev s_l_built : Stmt := top 19
abbrev s_l_cuts : Stmt := top 20
abbrev s_l_closed : Stmt := top 21
abbrev s_l_right : Stmt := top 22
abbrev s_law : Stmt := top 23
theorem sc_added : FnScope N_added P_added (defScope s_added) := ⟨rfl, rfl, rfl, by decide +kernel, rfl, by decide +kernel, by decide +kernel⟩
theorem sc_taken : FnScope N_taken P_taken (defScope s_taken) := ⟨rfl, rfl, rfl, by decide +kernel, rfl, by decide +kernel, by decide +kernel⟩
theorem sc_corners_of : FnScope N_corners_of P_corners_of (defScope s_corners_of) := ⟨rfl, rfl, rfl, by decide +kernel, rfl, by decide +kernel, by decide +kernel⟩
theorem sc_spans_of : FnScope N_spans_of P_spans_of (defScope s_spans_of) := ⟨rfl, rfl, rfl, by decide +kernel, rfl, by decide +kernel, by decide +kernel⟩
theorem sc_shifts_by : FnScope N_shifts_by P_shifts_by (defScope s_shifts_by) := ⟨rfl, rfl, rfl, by decide +kernel, rfl, by decide +kernel, by decide +kernel⟩
theorem sc_l_cell_at : FnScope N_l_cell_at P_l_cell_at (defScope s_l_cell_at) := ⟨rfl, rfl, rfl, by decide +kernel, rfl, by decide +kernel, by decide +kernel⟩
theorem sc_l_step : FnScope N_l_step P_l_step (defScope s_l_step) := ⟨rfl, rfl, rfl, by decide +kernel, rfl, by decide +kernel, by decide +kernel⟩
theorem sc_l_whole : FnScope N_l_whole P_l_whole (defScope s_l_whole) := ⟨rfl, rfl, rfl, by decide +kernel, rfl, by decide +kernel, by decide +kernel⟩
theorem sc_l_pair : FnScope N_l_pair P_l_pair (defScope s_l_pair) := ⟨rfl, rfl, rfl, by decide +kernel, rfl, by decide +kernel, by decide +kernel⟩
theorem sc_l_path : FnScope N_l_path P_l_path (defScope s_l_path) := ⟨rfl, rfl, rfl, by decide +kernel, rfl, by decide +kernel, by decide +kernel⟩
theorem sc_l_back : FnScope N_l_back P_l_back (defScope s_l_back) := ⟨rfl, rfl, rfl, by decide +kernel, rfl, by decide +kernel, by decide +kernel⟩
theorem sc_l_word : FnScope N_l_word P_l_word (defScope s_l_word) := ⟨rfl, rfl, rfl, by decide +kernel, rfl, by decide +kernel, by decide +kernel⟩
theorem sc_l_letters : FnScope N_l_letters P_l_letters (defScope s_l_letters) := ⟨rfl, rfl, rfl, by decide +kernel, rfl, by decide +kernel, by decide +kernel⟩
theorem sc_l_stretches : FnScope N_l_stretches P_l_stretches (defScope s_l_stretches) := ⟨rfl, rfl, rfl, by decide +kernel, rfl, by decide +kernel, by decide +kernel⟩
theorem sc_l_built : FnScope N_l_built P_l_built (defScope s_l_built) := ⟨rfl, rfl, rfl, by decide +kernel, rfl, by decide +kernel, by decide +kernel⟩
theorem sc_l_cuts : FnScope N_l_cuts P_l_cuts (defScope s_l_cuts) := ⟨rfl, rfl, rfl, by decide +kernel, rfl, by decide +kernel, by decide +kernel⟩
theorem sc_l_closed : FnScope N_l_closed P_l_closed (defScope s_l_closed) := ⟨rfl, rfl, rfl, by decide +kernel, rfl, by decide +kernel, by decide +kernel⟩
theorem sc_l_right : FnScope N_l_right P_l_right (defScope s_l_right) := ⟨rfl, rfl, rfl, by decide +kernel, rfl, by decide +kernel, by decide +kernel⟩
theorem sc_law : FnScope N_law P_law (defScope s_law) := ⟨rfl, rfl, rfl, by decide +kernel, rfl, by decide +kernel, by decide +kernel⟩
structure Tx (K : PySem.W.Frag) (mg : Str → Option Value) (w : World) : Prop where
  f_added : ∃ f fd, Fun K "added" "added" s_added f fd ∧ mg "added" = some (.ref f) ∧ Binds K fd P_added []
  f_taken : ∃ f fd, Fun K "taken" "taken" s_taken f fd ∧ mg "taken" = some (.ref f) ∧ Binds K fd P_taken []
  f_corners_of : ∃ f fd, Fun K "corners_of" "corners_of" s_corners_of f fd ∧ mg "corners_of" = some (.ref f) ∧ Binds K fd P_corners_of []
  f_spans_of : ∃ f fd, Fun K "spans_of" "spans_of" s_spans_of f fd ∧ mg "spans_of" = some (.ref f) ∧ Binds K fd P_spans_of []
  f_shifts_by : ∃ f fd, Fun K "shifts_by" "shifts_by" s_shifts_by f fd ∧ mg "shifts_by" = some (.ref f) ∧ Binds K fd P_shifts_by []
  f_l_cell_at : ∃ f fd, Fun K "_law_cell_at" "_law_cell_at" s_l_cell_at f fd ∧ mg "_law_cell_at" = some (.ref f) ∧ Binds K fd P_l_cell_at []
  f_l_step : ∃ f fd, Fun K "_law_step" "_law_step" s_l_step f fd ∧ mg "_law_step" = some (.ref f) ∧ Binds K fd P_l_step []
  f_l_whole : ∃ f fd, Fun K "_law_whole" "_law_whole" s_l_whole f fd ∧ mg "_law_whole" = some (.ref f) ∧ Binds K fd P_l_whole []
  f_l_pair : ∃ f fd, Fun K "_law_pair" "_law_pair" s_l_pair f fd ∧ mg "_law_pair" = some (.ref f) ∧ Binds K fd P_l_pair []
  f_l_path : ∃ f fd, Fun K "_law_path" "_law_path" s_l_path f fd ∧ mg "_law_path" = some (.ref f) ∧ Binds K fd P_l_path []
  f_l_back : ∃ f fd, Fun K "_law_back" "_law_back" s_l_back f fd ∧ mg "_law_back" = some (.ref f) ∧ Binds K fd P_l_back []
  f_l_word : ∃ f fd, Fun K "_law_word" "_law_word" s_l_word f fd ∧ mg "_law_word" = some (.ref f) ∧ Binds K fd P_l_word []
  f_l_letters : ∃ f fd, Fun K "_law_letters" "_law_letters" s_l_letters f fd ∧ mg "_law_letters" = some (.ref f) ∧ Binds K fd P_l_letters []
  f_l_stretches : ∃ f fd, Fun K "_law_stretches" "_law_stretches" s_l_stretches f fd ∧ mg "_law_stretches" = some (.ref f) ∧ Binds K fd P_l_stretches []
  f_l_built : ∃ f fd, Fun K "_law_built" "_law_built" s_l_built f fd ∧ mg "_law_built" = some (.ref f) ∧ Binds K fd P_l_built []
  f_l_cuts : ∃ f fd, Fun K "_law_cuts" "_law_cuts" s_l_cuts f fd ∧ mg "_law_cuts" = some (.ref f) ∧ Binds K fd P_l_cuts []
  f_l_closed : ∃ f fd, Fun K "_law_closed" "_law_closed" s_l_closed f fd ∧ mg "_law_closed" = some (.ref f) ∧ Binds K fd P_l_closed []
  f_l_right : ∃ f fd, Fun K "_law_right" "_law_right" s_l_right f fd ∧ mg "_law_right" = some (.ref f) ∧ Binds K fd P_l_right []
  m_bool : mg "bool" = none
  m_enumerate : mg "enumerate" = none
  m_int : mg "int" = none
  m_isinstance : mg "isinstance" = none
  m_len : mg "len" = none
  m_list : mg "list" = none
  m_max : mg "max" = none
  m_range : mg "range" = none
  m_sorted : mg "sorted" = none
  m_tuple : mg "tuple" = none
  m_zip : mg "zip" = none
  d_STEPS : ∃ a, mg "STEPS" = some (.ref a) ∧ DC K w a c_STEPS
section
variable {P : Program} {w : World} {K : PySem.W.Frag} {mg : Str → Option Value} {base : Heap}
theorem ok_added (T : Tx K mg w) : Fn P w K mg base 1 "added" P_added sp_added := by
  obtain ⟨f, fd, F, hm, hb⟩ := T.f_added
  exact fn3 F sc_added hm hb len_added fun cdv A outer s H E hr => ⟨t_added, (s3_one (s3_ret (p3_tup (a3_cons (p3_op op3_add (p3_ix ix3 (p3_var 0) p3_int) (p3_ix ix3 (p3_var 1) p3_int)) (a3_cons (p3_op op3_add (p3_ix ix3 (p3_var 0) p3_int) (p3_ix ix3 (p3_var 1) p3_int)) a3_nil))))), rd_added⟩

theorem ok_taken (T : Tx K mg w) : Fn P w K mg base 1 "taken" P_taken sp_taken := by
  obtain ⟨f, fd, F, hm, hb⟩ := T.f_taken
  exact fn3 F sc_taken hm hb len_taken fun cdv A outer s H E hr => ⟨t_taken, (s3_one (s3_ret (p3_tup (a3_cons (p3_op op3_sub (p3_ix ix3 (p3_var 0) p3_int) (p3_ix ix3 (p3_var 1) p3_int)) (a3_cons (p3_op op3_sub (p3_ix ix3 (p3_var 0) p3_int) (p3_ix ix3 (p3_var 1) p3_int)) a3_nil))))), rd_taken⟩

theorem ok_spans_of (T : Tx K mg w) : Fn P w K mg base 1 "spans_of" P_spans_of sp_spans_of := by
  obtain ⟨f, fd, F, hm, hb⟩ := T.f_spans_of
  exact fn3 F sc_spans_of hm hb len_spans_of fun cdv A outer s H E hr => ⟨t_spans_of, (s3_cons (s3_set 2 sc_spans_of.nd (p3_op op3_add (p3_callTy cb3_list rfl T.m_list (by rfl) (a3_cons (p3_slice sl3_tup (p3_var 1) (po3_some p3_int) po3_none) a3_nil)) (p3_lst (a3_cons (p3_op op3_add (p3_ix ix3 (p3_var 1) p3_int) (p3_op op3_fdivW (p3_callB cb3_len rfl T.m_len (by rfl) (a3_cons (p3_var 0) a3_nil)) p3_int)) a3_nil))))
      (s3_one (s3_ret (p3_listzip rfl T.m_list T.m_zip (p3_var 1) (p3_var 2))))), rd_spans_of⟩

theorem ok_l_cell_at (T : Tx K mg w) : Fn P w K mg base 1 "_law_cell_at" P_l_cell_at sp_l_cell_at := by
  obtain ⟨f, fd, F, hm, hb⟩ := T.f_l_cell_at
  exact fn3 F sc_l_cell_at hm hb len_l_cell_at fun cdv A outer s H E hr => ⟨t_l_cell_at, (s3_cons (s3_if (p3_tcmp (op3_lt hr.units0) (p3_var 1) (p3_callB cb3_len rfl T.m_len (by rfl) (a3_cons (p3_var 0) a3_nil))) (s3_one (s3_ret (p3_ix ix3 (p3_var 0) (p3_var 1)))) s3_nil)
      (s3_cons (s3_if (p3_tcmp (op3_eq hr.units) (p3_callB cb3_len rfl T.m_len (by rfl) (a3_cons (p3_var 0) a3_nil)) p3_int) (s3_one (s3_ret p3_int)) s3_nil)
      (s3_one (s3_ret (p3_op op3_mod (p3_op op3_mulW (p3_ix ix3 (p3_var 0) (p3_op op3_mod (p3_var 1) (p3_callB cb3_len rfl T.m_len (by rfl) (a3_cons (p3_var 0) a3_nil)))) (p3_op op3_add p3_int (p3_op op3_mulW (p3_var 1) (p3_var 1)))) p3_int))))), rd_l_cell_at⟩

theorem ok_l_step (T : Tx K mg w) : Fn P w K mg base 1 "_law_step" P_l_step sp_l_step := by
  obtain ⟨f, fd, F, hm, hb⟩ := T.f_l_step
  exact fn3 F sc_l_step hm hb len_l_step fun cdv A outer s H E hr => ⟨t_l_step, (s3_one (s3_ret (p3_ix ix3 (p3_lst (a3_cons (p3_tup (a3_cons p3_int (a3_cons p3_int a3_nil))) (a3_cons (p3_tup (a3_cons p3_int (a3_cons p3_int a3_nil))) (a3_cons (p3_tup (a3_cons (p3_un un3_neg p3_int) (a3_cons p3_int a3_nil))) (a3_cons (p3_tup (a3_cons p3_int (a3_cons (p3_un un3_neg p3_int) a3_nil))) a3_nil))))) (p3_zm PySem.F.slot_str_index PySem.F.type_str_index mt3_index p3_str (a3_cons (p3_var 0) a3_nil))))), rd_l_step⟩

theorem ok_l_whole (T : Tx K mg w) : Fn P w K mg base 1 "_law_whole" P_l_whole sp_l_whole := by
  obtain ⟨f, fd, F, hm, hb⟩ := T.f_l_whole
  exact fn3 F sc_l_whole hm hb len_l_whole fun cdv A outer s H E hr => ⟨t_l_whole, (s3_one (s3_ret (p3_and (p3_callB cb3_isi rfl T.m_isinstance (by rfl) (a3_cons (p3_var 0) (a3_cons (p3_ty rfl T.m_int (by rfl)) a3_nil))) (p3_one (p3_not (p3_callB cb3_isi rfl T.m_isinstance (by rfl) (a3_cons (p3_var 0) (a3_cons (p3_ty rfl T.m_bool (by rfl)) a3_nil)))))))), rd_l_whole⟩

theorem ok_l_back (T : Tx K mg w) : Fn P w K mg base 1 "_law_back" P_l_back sp_l_back := by
  obtain ⟨f, fd, F, hm, hb⟩ := T.f_l_back
  exact fn3 F sc_l_back hm hb len_l_back fun cdv A outer s H E hr => ⟨t_l_back, (s3_cons (s3_set 1 sc_l_back.nd p3_str)
      (s3_cons (s3_for PassesOwn.never rfl (i3_text (p3_var 0)) (g3_name 2 sc_l_back.nd) (s3_one (s3_set 1 sc_l_back.nd (p3_op op3_add (p3_ix ix3 p3_str (p3_zm PySem.F.slot_str_index PySem.F.type_str_index mt3_index p3_str (a3_cons (p3_var 2) a3_nil))) (p3_var 1)))))
      (s3_one (s3_ret (p3_var 1))))), rd_l_back⟩

theorem ok_l_cuts (T : Tx K mg w) : Fn P w K mg base 1 "_law_cuts" P_l_cuts sp_l_cuts := by
  obtain ⟨f, fd, F, hm, hb⟩ := T.f_l_cuts
  exact fn3 F sc_l_cuts hm hb len_l_cuts fun cdv A outer s H E hr => ⟨t_l_cuts, (s3_cons (s3_set 2 sc_l_cuts.nd (p3_op op3_mod (p3_var 0) (p3_var 1)))
      (s3_cons (s3_set 3 sc_l_cuts.nd (p3_lst (a3_cons (p3_var 2) (a3_cons (p3_op op3_mod (p3_op op3_add (p3_op op3_add (p3_var 2) p3_int) (p3_op op3_mod (p3_op op3_fdivW (p3_var 0) p3_int) (p3_op op3_sub (p3_var 1) p3_int))) (p3_var 1)) a3_nil))))
      (s3_cons (s3_set 4 sc_l_cuts.nd (p3_op op3_mod (p3_op op3_fdivW (p3_var 0) p3_int) (p3_var 1)))
      (s3_cons (s3_if (p3_tw (p3_wand (p3_tcmp (op3_eq hr.units) (p3_op op3_mod (p3_op op3_fdivW (p3_var 0) p3_int) p3_int) p3_int) (p3_wand1 (p3_tcmp (op3_notInX hr.units) (p3_var 4) (p3_var 3))))) (s3_one (s3_expr (p3_bm PySem.F.slot_list_append PySem.F.type_list_append mt3_app (p3_var 3) (a3_cons (p3_var 4) a3_nil)))) s3_nil)
      (s3_one (s3_ret (p3_callTy cb3_tuple rfl T.m_tuple (by rfl) (a3_cons (p3_callB cb3_sortI rfl T.m_sorted (by rfl) (a3_cons (p3_var 3) a3_nil)) a3_nil)))))))), rd_l_cuts⟩

theorem ok_corners_of (T : Tx K mg w) : Fn P w K mg base 2 "corners_of" P_corners_of sp_corners_of := by
  obtain ⟨f, fd, F, hm, hb⟩ := T.f_corners_of
  exact fn3 F sc_corners_of hm hb len_corners_of fun cdv A outer s H E hr => ⟨t_corners_of, (s3_cons (s3_set 2 sc_corners_of.nd (p3_lst (a3_cons (p3_var 0) a3_nil)))
      (s3_cons (s3_for PassesOwn.never rfl (i3_text (p3_var 1)) (g3_name 3 sc_corners_of.nd) (s3_one (s3_expr (p3_bm PySem.F.slot_list_append PySem.F.type_list_append mt3_app (p3_var 2) (a3_cons (p3_call (ok_added T) (hr.mono (by decide)) (a3_cons (p3_ix ix3 (p3_var 2) (p3_un un3_neg p3_int)) (a3_cons (p3_kd rfl T.d_STEPS (p3_var 3)) a3_nil))) a3_nil)))))
      (s3_one (s3_ret (p3_var 2))))), rd_corners_of⟩

theorem ok_l_pair (T : Tx K mg w) : Fn P w K mg base 2 "_law_pair" P_l_pair sp_l_pair := by
  obtain ⟨f, fd, F, hm, hb⟩ := T.f_l_pair
  exact fn3 F sc_l_pair hm hb len_l_pair fun cdv A outer s H E hr => ⟨t_l_pair, (s3_cons (s3_if (p3_tw (p3_wor (p3_tnot (p3_tval (p3_callB cb3_isi rfl T.m_isinstance (by rfl) (a3_cons (p3_var 0) (a3_cons (p3_ty rfl T.m_tuple (by rfl)) a3_nil))))) (p3_wor1 (p3_tcmp (op3_ne hr.units) (p3_callB cb3_len rfl T.m_len (by rfl) (a3_cons (p3_var 0) a3_nil)) p3_int)))) (s3_one (s3_ret p3_bl)) s3_nil)
      (s3_one (s3_ret (p3_and (p3_call (ok_l_whole T) (hr.mono (by decide)) (a3_cons (p3_ix ix3 (p3_var 0) p3_int) a3_nil)) (p3_and (p3_call (ok_l_whole T) (hr.mono (by decide)) (a3_cons (p3_ix ix3 (p3_var 0) p3_int) a3_nil)) (p3_one (p3_cmp (op3_eq hr.units) (p3_var 0) (p3_var 1)))))))), rd_l_pair⟩

theorem ok_l_path (T : Tx K mg w) : Fn P w K mg base 2 "_law_path" P_l_path sp_l_path := by
  obtain ⟨f, fd, F, hm, hb⟩ := T.f_l_path
  exact fn3 F sc_l_path hm hb len_l_path fun cdv A outer s H E hr => ⟨t_l_path, (s3_cons (s3_set 2 sc_l_path.nd (p3_lst (a3_cons (p3_var 0) a3_nil)))
      (s3_cons (s3_for PassesOwn.never rfl (i3_text (p3_var 1)) (g3_name 3 sc_l_path.nd) (s3_cons (s3_set 4 sc_l_path.nd (p3_call (ok_l_step T) (hr.mono (by decide)) (a3_cons (p3_var 3) a3_nil)))
      (s3_one (s3_expr (p3_bm PySem.F.slot_list_append PySem.F.type_list_append mt3_app (p3_var 2) (a3_cons (p3_tup (a3_cons (p3_op op3_add (p3_ix ix3 (p3_ix ix3 (p3_var 2) (p3_un un3_neg p3_int)) p3_int) (p3_ix ix3 (p3_var 4) p3_int)) (a3_cons (p3_op op3_add (p3_ix ix3 (p3_ix ix3 (p3_var 2) (p3_un un3_neg p3_int)) p3_int) (p3_ix ix3 (p3_var 4) p3_int)) a3_nil))) a3_nil))))))
      (s3_one (s3_ret (p3_var 2))))), rd_l_path⟩

theorem ok_l_word (T : Tx K mg w) : Fn P w K mg base 2 "_law_word" P_l_word sp_l_word := by
  obtain ⟨f, fd, F, hm, hb⟩ := T.f_l_word
  exact fn3 F sc_l_word hm hb len_l_word fun cdv A outer s H E hr => ⟨t_l_word, (s3_one (s3_ret (p3_zm PySem.F.slot_str_join PySem.F.type_str_join mt3_join p3_str (a3_cons (p3_comp (fv := [(0, "_law_script"), (1, "_law_at")]) (by show CompOk (defScope s_l_word) N_l_word _ _ _ _; exact ⟨rfl, by decide +kernel, by decide +kernel, by decide +kernel, rfl, by decide +kernel, by decide +kernel⟩) rfl (i3_rng1 T.m_range (p3_var 2)) (fun pins cl s1 H1 fp => ifs3_nil) (fun pins cl s1 H1 fp => (p3_ix ix3 p3_str (p3_op op3_mod (p3_call (ok_l_cell_at T) (hr.mono (by decide)) (a3_cons (p3_var 1) (a3_cons (p3_op op3_add (p3_var 2) (p3_var 0)) a3_nil))) p3_int)))) a3_nil)))), rd_l_word⟩

theorem ok_l_letters (T : Tx K mg w) : Fn P w K mg base 2 "_law_letters" P_l_letters sp_l_letters := by
  obtain ⟨f, fd, F, hm, hb⟩ := T.f_l_letters
  exact fn3 F sc_l_letters hm hb len_l_letters fun cdv A outer s H E hr => ⟨t_l_letters, (s3_cons (s3_set 4 sc_l_letters.nd p3_str)
      (s3_cons (s3_for PassesOwn.never rfl (i3_rng1 T.m_range (p3_var 2)) (g3_name 5 sc_l_letters.nd) (s3_cons (s3_set 6 sc_l_letters.nd (p3_ix ix3 (p3_var 3) (p3_op op3_mod (p3_call (ok_l_cell_at T) (hr.mono (by decide)) (a3_cons (p3_var 0) (a3_cons (p3_op op3_add (p3_var 1) (p3_var 5)) a3_nil))) (p3_callB cb3_len rfl T.m_len (by rfl) (a3_cons (p3_var 3) a3_nil)))))
      (s3_cons (s3_if (p3_tw (p3_wand (p3_tcmp (op3_ne hr.units) (p3_var 4) p3_str) (p3_wand1 (p3_tcmp (op3_eq hr.units) (p3_var 6) (p3_call (ok_l_back T) (hr.mono (by decide)) (a3_cons (p3_ix ix3 (p3_var 4) (p3_un un3_neg p3_int)) a3_nil)))))) (s3_one (s3_set 6 sc_l_letters.nd (p3_ix ix3 (p3_var 3) p3_int))) s3_nil)
      (s3_one (s3_set 4 sc_l_letters.nd (p3_op op3_add (p3_var 4) (p3_var 6)))))))
      (s3_one (s3_ret (p3_var 4))))), rd_l_letters⟩

theorem ok_l_built (T : Tx K mg w) : Fn P w K mg base 2 "_law_built" P_l_built sp_l_built := by
  obtain ⟨f, fd, F, hm, hb⟩ := T.f_l_built
  exact fn3 F sc_l_built hm hb len_l_built fun cdv A outer s H E hr => ⟨t_l_built, (s3_cons (s3_set 2 sc_l_built.nd (p3_zm PySem.F.slot_str_join PySem.F.type_str_join mt3_join p3_str (a3_cons (p3_var 0) a3_nil)))
      (s3_cons (s3_set 3 sc_l_built.nd (p3_op op3_add (p3_var 2) (p3_zm PySem.F.slot_str_join PySem.F.type_str_join mt3_join p3_str (a3_cons (p3_comp (fv := []) (by show CompOk (defScope s_l_built) N_l_built _ _ _ _; exact ⟨rfl, by decide +kernel, by decide +kernel, by decide +kernel, rfl, by decide +kernel, by decide +kernel⟩) rfl (i3_list (p3_var 0)) (fun pins cl s1 H1 fp => ifs3_nil) (fun pins cl s1 H1 fp => (p3_call (ok_l_back T) (hr.mono (by decide)) (a3_cons (p3_var 0) a3_nil)))) a3_nil))))
      (s3_cons (s3_set 4 sc_l_built.nd (p3_lst a3_nil))
      (s3_cons (s3_set 5 sc_l_built.nd p3_int)
      (s3_cons (s3_for PassesOwn.never rfl (i3_list (p3_var 0)) (g3_name 6 sc_l_built.nd) (s3_cons (s3_expr (p3_bm PySem.F.slot_list_append PySem.F.type_list_append mt3_app (p3_var 4) (a3_cons (p3_op op3_mod (p3_op op3_sub (p3_var 5) (p3_var 1)) (p3_callB cb3_len rfl T.m_len (by rfl) (a3_cons (p3_var 2) a3_nil))) a3_nil)))
      (s3_one (s3_set 5 sc_l_built.nd (p3_op op3_add (p3_var 5) (p3_callB cb3_len rfl T.m_len (by rfl) (a3_cons (p3_var 6) a3_nil)))))))
      (s3_cons (s3_set 1 sc_l_built.nd (p3_op op3_mod (p3_var 1) (p3_callB cb3_len rfl T.m_len (by rfl) (a3_cons (p3_var 3) a3_nil))))
      (s3_one (s3_ret (p3_tup (a3_cons (p3_op op3_add (p3_slice sl3_text (p3_var 3) (po3_some (p3_var 1)) po3_none) (p3_slice sl3_text (p3_var 3) po3_none (po3_some (p3_var 1)))) (a3_cons (p3_callTy cb3_tuple rfl T.m_tuple (by rfl) (a3_cons (p3_callB cb3_sortI rfl T.m_sorted (by rfl) (a3_cons (p3_var 4) a3_nil)) a3_nil)) a3_nil))))))))))), rd_l_built⟩

theorem ok_shifts_by (T : Tx K mg w) : Fn P w K mg base 3 "shifts_by" P_shifts_by sp_shifts_by := by
  obtain ⟨f, fd, F, hm, hb⟩ := T.f_shifts_by
  exact fn3 F sc_shifts_by hm hb len_shifts_by fun cdv A outer s H E hr => ⟨t_shifts_by, (s3_cons (s3_set 2 sc_shifts_by.nd (p3_call (ok_corners_of T) (hr.mono (by decide)) (a3_cons (p3_tup (a3_cons p3_int (a3_cons p3_int a3_nil))) (a3_cons (p3_var 0) a3_nil))))
      (s3_cons (s3_set 3 sc_shifts_by.nd (p3_op op3_fdivW (p3_callB cb3_len rfl T.m_len (by rfl) (a3_cons (p3_var 0) a3_nil)) p3_int))
      (s3_cons (s3_set 4 sc_shifts_by.nd (p3_lst a3_nil))
      (s3_cons (s3_for PassesOwn.never rfl (i3_list (p3_call (ok_spans_of T) (hr.mono (by decide)) (a3_cons (p3_var 0) (a3_cons (p3_var 1) a3_nil)))) (g3_name 5 sc_shifts_by.nd) (s3_cons (s3_set 6 sc_shifts_by.nd (p3_op op3_mod (p3_op op3_add (p3_ix ix3 (p3_var 5) p3_int) (p3_var 3)) (p3_callB cb3_len rfl T.m_len (by rfl) (a3_cons (p3_var 0) a3_nil))))
      (s3_one (s3_expr (p3_bm PySem.F.slot_list_append PySem.F.type_list_append mt3_app (p3_var 4) (a3_cons (p3_call (ok_taken T) (hr.mono (by decide)) (a3_cons (p3_ix ix3 (p3_var 2) (p3_ix ix3 (p3_var 5) p3_int)) (a3_cons (p3_ix ix3 (p3_var 2) (p3_var 6)) a3_nil))) a3_nil))))))
      (s3_one (s3_ret (p3_var 4))))))), rd_shifts_by⟩

theorem ok_l_stretches (T : Tx K mg w) : Fn P w K mg base 3 "_law_stretches" P_l_stretches sp_l_stretches := by
  obtain ⟨f, fd, F, hm, hb⟩ := T.f_l_stretches
  exact fn3 F sc_l_stretches hm hb len_l_stretches fun cdv A outer s H E hr => ⟨t_l_stretches, (s3_cons (s3_set 2 sc_l_stretches.nd (p3_call (ok_l_cell_at T) (hr.mono (by decide)) (a3_cons (p3_var 0) (a3_cons (p3_var 1) a3_nil))))
      (s3_cons (s3_set 3 sc_l_stretches.nd (p3_lst a3_nil))
      (s3_cons (s3_for PassesOwn.never rfl (i3_enum T.m_enumerate (p3_lst (a3_cons p3_str (a3_cons p3_str (a3_cons p3_str a3_nil))))) (g3_pair 4 5 rfl sc_l_stretches.nd) (s3_one (s3_expr (p3_bm PySem.F.slot_list_append PySem.F.type_list_append mt3_app (p3_var 3) (a3_cons (p3_call (ok_l_letters T) (hr.mono (by decide)) (a3_cons (p3_var 0) (a3_cons (p3_op op3_add (p3_op op3_add (p3_var 1) p3_int) (p3_op op3_mulW p3_int (p3_var 4))) (a3_cons (p3_ix ix3 (p3_lst (a3_cons (p3_op op3_mod (p3_var 2) p3_int) (a3_cons (p3_op op3_mod (p3_op op3_fdivW (p3_var 2) p3_int) p3_int) (a3_cons (p3_op op3_mod (p3_op op3_fdivW (p3_var 2) p3_int) p3_int) a3_nil)))) (p3_var 4)) (a3_cons (p3_var 5) a3_nil))))) a3_nil)))))
      (s3_one (s3_ret (p3_comp (fv := []) (by show CompOk (defScope s_l_stretches) N_l_stretches _ _ _ _; exact ⟨rfl, by decide +kernel, by decide +kernel, by decide +kernel, rfl, by decide +kernel, by decide +kernel⟩) rfl (i3_list (p3_var 3)) (fun pins cl s1 H1 fp => (ifs3_one (p3_tcmp (op3_ne hr.units) (p3_var 0) p3_str))) (fun pins cl s1 H1 fp => (p3_var 0)))))))), rd_l_stretches⟩

theorem ok_l_closed (T : Tx K mg w) : Fn P w K mg base 3 "_law_closed" P_l_closed sp_l_closed := by
  obtain ⟨f, fd, F, hm, hb⟩ := T.f_l_closed
  exact fn3 F sc_l_closed hm hb len_l_closed fun cdv A outer s H E hr => ⟨t_l_closed, (s3_cons (s3_asg (p3_ix ix3 (p3_call (ok_l_path T) (hr.mono (by decide)) (a3_cons (p3_tup (a3_cons p3_int (a3_cons p3_int a3_nil))) (a3_cons (p3_var 0) a3_nil))) (p3_un un3_neg p3_int)) (g3_pair 2 3 rfl sc_l_closed.nd))
      (s3_cons (s3_set 4 sc_l_closed.nd (p3_op op3_add (p3_op op3_mulZ p3_str (p3_callB (cb3_max2 rfl) rfl T.m_max (by rfl) (a3_cons p3_int (a3_cons (p3_var 2) a3_nil)))) (p3_op op3_mulZ p3_str (p3_callB (cb3_max2 rfl) rfl T.m_max (by rfl) (a3_cons p3_int (a3_cons (p3_op op3_sub p3_int (p3_var 2)) a3_nil))))))
      (s3_cons (s3_set 5 sc_l_closed.nd (p3_op op3_add (p3_op op3_mulZ p3_str (p3_callB (cb3_max2 rfl) rfl T.m_max (by rfl) (a3_cons p3_int (a3_cons (p3_var 3) a3_nil)))) (p3_op op3_mulZ p3_str (p3_callB (cb3_max2 rfl) rfl T.m_max (by rfl) (a3_cons p3_int (a3_cons (p3_op op3_sub p3_int (p3_var 3)) a3_nil))))))
      (s3_cons (s3_if (p3_tcmp (op3_eq hr.units) (p3_op op3_mod (p3_var 1) p3_int) p3_int) (s3_one (s3_ret (p3_op op3_add (p3_op op3_add (p3_var 0) (p3_var 5)) (p3_var 4)))) s3_nil)
      (s3_cons (s3_set 6 sc_l_closed.nd (p3_op op3_mod (p3_op op3_fdivW (p3_var 1) p3_int) (p3_op op3_add (p3_callB cb3_len rfl T.m_len (by rfl) (a3_cons (p3_var 4) a3_nil)) p3_int)))
      (s3_one (s3_ret (p3_op op3_add (p3_op op3_add (p3_op op3_add (p3_var 0) (p3_slice sl3_text (p3_var 4) po3_none (po3_some (p3_var 6)))) (p3_var 5)) (p3_slice sl3_text (p3_var 4) (po3_some (p3_var 6)) po3_none))))))))), rd_l_closed⟩

theorem ok_l_right (T : Tx K mg w) : Fn P w K mg base 3 "_law_right" P_l_right sp_l_right := by
  obtain ⟨f, fd, F, hm, hb⟩ := T.f_l_right
  exact fn3 F sc_l_right hm hb len_l_right fun cdv A outer s H E hr => ⟨t_l_right, (s3_cons (s3_set 4 sc_l_right.nd (p3_op op3_fdivW (p3_callB cb3_len rfl T.m_len (by rfl) (a3_cons (p3_var 0) a3_nil)) p3_int))
      (s3_cons (s3_set 5 sc_l_right.nd (p3_call (ok_l_path T) (hr.mono (by decide)) (a3_cons (p3_tup (a3_cons p3_int (a3_cons p3_int a3_nil))) (a3_cons (p3_op op3_add (p3_var 0) (p3_var 0)) a3_nil))))
      (s3_cons (s3_if (p3_tw (p3_wor (p3_tnot (p3_tval (p3_callB cb3_isi rfl T.m_isinstance (by rfl) (a3_cons (p3_var 2) (a3_cons (p3_ty rfl T.m_list (by rfl)) a3_nil))))) (p3_wor1 (p3_tcmp (op3_ne hr.units) (p3_callB cb3_len rfl T.m_len (by rfl) (a3_cons (p3_var 2) a3_nil)) (p3_callB cb3_len rfl T.m_len (by rfl) (a3_cons (p3_var 1) a3_nil)))))) (s3_one (s3_ret p3_bl)) s3_nil)
      (s3_cons (s3_for PassesOwn.never rfl (i3_rng1 T.m_range (p3_callB cb3_len rfl T.m_len (by rfl) (a3_cons (p3_var 1) a3_nil))) (g3_name 6 sc_l_right.nd) (s3_cons (s3_set 7 sc_l_right.nd (p3_op op3_add (p3_ix ix3 (p3_var 1) p3_int) (p3_var 4)))
      (s3_cons (s3_if (p3_tcmp (op3_lt hr.units0) (p3_var 6) (p3_op op3_sub (p3_callB cb3_len rfl T.m_len (by rfl) (a3_cons (p3_var 1) a3_nil)) p3_int)) (s3_one (s3_set 7 sc_l_right.nd (p3_ix ix3 (p3_var 1) (p3_op op3_add (p3_var 6) p3_int)))) s3_nil)
      (s3_cons (s3_set 8 sc_l_right.nd p3_int)
      (s3_cons (s3_if (p3_tval (p3_var 3)) (s3_one (s3_set 8 sc_l_right.nd (p3_op op3_add (p3_op op3_sub (p3_var 7) (p3_ix ix3 (p3_var 1) (p3_var 6))) p3_int))) s3_nil)
      (s3_one (s3_for PassesOwn.never rfl (i3_rng1 T.m_range (p3_var 8)) (g3_name 9 sc_l_right.nd) (s3_cons (s3_set 10 sc_l_right.nd (p3_ix ix3 (p3_var 5) (p3_op op3_add (p3_ix ix3 (p3_var 1) (p3_var 6)) (p3_var 9))))
      (s3_cons (s3_set 11 sc_l_right.nd (p3_ix ix3 (p3_var 5) (p3_op op3_sub (p3_op op3_add (p3_var 7) (p3_var 4)) (p3_var 9))))
      (s3_one (s3_if (p3_tnot (p3_tval (p3_call (ok_l_pair T) (hr.mono (by decide)) (a3_cons (p3_ix ix3 (p3_var 2) (p3_var 6)) (a3_cons (p3_tup (a3_cons (p3_op op3_sub (p3_ix ix3 (p3_var 10) p3_int) (p3_ix ix3 (p3_var 11) p3_int)) (a3_cons (p3_op op3_sub (p3_ix ix3 (p3_var 10) p3_int) (p3_ix ix3 (p3_var 11) p3_int)) a3_nil))) a3_nil))))) (s3_one (s3_ret p3_bl)) s3_nil)))))))))))
      (s3_cons (s3_if (p3_tw (p3_wand (p3_tval (p3_var 3)) (p3_wand1 (p3_tcmp (op3_eq hr.units) (p3_callB cb3_len rfl T.m_len (by rfl) (a3_cons (p3_var 2) a3_nil)) p3_int)))) (s3_one (s3_ret (p3_call (ok_l_pair T) (hr.mono (by decide)) (a3_cons (p3_ix ix3 (p3_var 2) p3_int) (a3_cons (p3_tup (a3_cons (p3_op op3_add (p3_ix ix3 (p3_ix ix3 (p3_var 2) p3_int) p3_int) (p3_ix ix3 (p3_ix ix3 (p3_var 2) p3_int) p3_int)) (a3_cons (p3_op op3_add (p3_ix ix3 (p3_ix ix3 (p3_var 2) p3_int) p3_int) (p3_ix ix3 (p3_ix ix3 (p3_var 2) p3_int) p3_int)) a3_nil))) a3_nil))))) s3_nil)
      (s3_one (s3_ret p3_bl))))))), rd_l_right⟩

theorem law_ok (T : Tx K mg w) {f : Addr} {fd : FuncData} (F : Fun K "law" "law" s_law f fd) : FnOk P w K mg base CX0 4 f fd P_law (liftF K sp_law) :=
  fnok3 F sc_law len_law fun cdv A outer s H E hr => ⟨t_law, (s3_cons (s3_set 1 sc_law.nd (p3_call (ok_l_cell_at T) (hr.mono (by decide)) (a3_cons (p3_var 0) (a3_cons p3_int a3_nil))))
      (s3_cons (s3_set 2 sc_law.nd (p3_call (ok_l_stretches T) (hr.mono (by decide)) (a3_cons (p3_var 0) (a3_cons p3_int a3_nil))))
      (s3_cons (s3_if (p3_tcmp (op3_lt hr.units0) (p3_callB cb3_len rfl T.m_len (by rfl) (a3_cons (p3_var 2) a3_nil)) p3_int) (s3_one (s3_set 2 sc_law.nd (p3_lst (a3_cons p3_str (a3_cons p3_str a3_nil))))) s3_nil)
      (s3_cons (s3_asg (p3_call (ok_l_built T) (hr.mono (by decide)) (a3_cons (p3_var 2) (a3_cons (p3_op op3_mod (p3_op op3_fdivW (p3_var 1) p3_int) p3_int) a3_nil))) (g3_pair 3 4 rfl sc_law.nd))
      (s3_cons (s3_set 5 sc_law.nd (p3_cmp (op3_eq hr.units) (p3_op op3_mod (p3_var 1) p3_int) p3_int))
      (s3_cons (s3_if (p3_tnot (p3_tval (p3_var 5))) (s3_cons (s3_set 3 sc_law.nd (p3_call (ok_l_closed T) (hr.mono (by decide)) (a3_cons (p3_call (ok_l_word T) (hr.mono (by decide)) (a3_cons (p3_var 0) (a3_cons p3_int (a3_cons (p3_op op3_add p3_int (p3_op op3_mod (p3_op op3_fdivW (p3_var 1) p3_int) p3_int)) a3_nil)))) (a3_cons (p3_op op3_fdivW (p3_var 1) p3_int) a3_nil))))
      (s3_cons (s3_if (p3_tcmp (op3_lt hr.units0) (p3_callB cb3_len rfl T.m_len (by rfl) (a3_cons (p3_var 3) a3_nil)) p3_int) (s3_one (s3_set 3 sc_law.nd (p3_op op3_add p3_str (p3_var 3)))) s3_nil)
      (s3_one (s3_set 4 sc_law.nd (p3_call (ok_l_cuts T) (hr.mono (by decide)) (a3_cons (p3_op op3_mod (p3_op op3_mulW (p3_call (ok_l_cell_at T) (hr.mono (by decide)) (a3_cons (p3_var 0) (a3_cons p3_int a3_nil))) p3_int) p3_int) (a3_cons (p3_op op3_fdivW (p3_callB cb3_len rfl T.m_len (by rfl) (a3_cons (p3_var 3) a3_nil)) p3_int) a3_nil))))))) s3_nil)
      (s3_cons (s3_set 6 sc_law.nd (p3_call (ok_shifts_by T) (hr.mono (by decide)) (a3_cons (p3_var 3) (a3_cons (p3_var 4) a3_nil))))
      (s3_cons (s3_if (p3_tnot (p3_tval (p3_call (ok_l_right T) (hr.mono (by decide)) (a3_cons (p3_var 3) (a3_cons (p3_var 4) (a3_cons (p3_var 6) (a3_cons (p3_var 5) a3_nil))))))) (s3_one (s3_ret p3_bl)) s3_nil)
      (s3_cons (s3_expr (p3_bm0 PySem.F.slot_list_clear PySem.F.type_list_clear mt3_clr (p3_var 6)))
      (s3_one (s3_ret (p3_call (ok_l_right T) (hr.mono (by decide)) (a3_cons (p3_var 3) (a3_cons (p3_var 4) (a3_cons (p3_call (ok_shifts_by T) (hr.mono (by decide)) (a3_cons (p3_var 3) (a3_cons (p3_var 4) a3_nil))) (a3_cons (p3_var 5) a3_nil)))))))))))))))), rd_law⟩

end
theorem all_mk {l : PySem.W.OpenLaw} {w : World} {K : PySem.W.Frag} {h : Heap} {mg : Str → Option Value} {fa f0 f1 f2 f3 f4 f5 f6 f7 f8 f9 f10 f11 f12 f13 f14 f15 f16 f17 f18 : Addr} (X : K.In h) (G : h.Ns mainGlobals mg) (hfa : mg "law" = some (.ref fa))
    {od0 an0 od1 an1 od2 an2 od3 an3 od4 an4 od5 an5 od6 an6 od7 an7 od8 an8 od9 an9 od10 an10 od11 an11 od12 an12 od13 an13 od14 an14 od15 an15 od16 an16 od17 an17 od18 an18 : Option Addr} {sl0 sl1 sl2 sl3 sl4 sl5 sl6 sl7 sl8 sl9 sl10 sl11 sl12 sl13 sl14 sl15 sl16 sl17 sl18 : Array (Option Value)} {oc0 kV0 dc0 pm0 cd0 ct0 oc1 kV1 dc1 pm1 cd1 ct1 oc2 kV2 dc2 pm2 cd2 ct2 oc3 kV3 dc3 pm3 cd3 ct3 oc4 kV4 dc4 pm4 cd4 ct4 oc5 kV5 dc5 pm5 cd5 ct5 oc6 kV6 dc6 pm6 cd6 ct6 oc7 kV7 dc7 pm7 cd7 ct7 oc8 kV8 dc8 pm8 cd8 ct8 oc9 kV9 dc9 pm9 cd9 ct9 oc10 kV10 dc10 pm10 cd10 ct10 oc11 kV11 dc11 pm11 cd11 ct11 oc12 kV12 dc12 pm12 cd12 ct12 oc13 kV13 dc13 pm13 cd13 ct13 oc14 kV14 dc14 pm14 cd14 ct14 oc15 kV15 dc15 pm15 cd15 ct15 oc16 kV16 dc16 pm16 cd16 ct16 oc17 kV17 dc17 pm17 cd17 ct17 oc18 kV18 dc18 pm18 cd18 ct18 : Value}
    (a0 : PySem.W.nsIn K mainGlobals "added" = some (some (.ref f0))) (l0 : K.lookup f0 = some ⟨oc0, od0, .func (PySem.W.fnOf "added" "added" (defArgs s_added) (defBody s_added) (defScope s_added) .none kV0 dc0 pm0 an0 cd0 ct0), sl0⟩) (c0 : PySem.W.codeIn K cd0 "added" = true) (k0 : PySem.W.keepIn K (.ref f0) = true)
    (a1 : PySem.W.nsIn K mainGlobals "taken" = some (some (.ref f1))) (l1 : K.lookup f1 = some ⟨oc1, od1, .func (PySem.W.fnOf "taken" "taken" (defArgs s_taken) (defBody s_taken) (defScope s_taken) .none kV1 dc1 pm1 an1 cd1 ct1), sl1⟩) (c1 : PySem.W.codeIn K cd1 "taken" = true) (k1 : PySem.W.keepIn K (.ref f1) = true)
    (a2 : PySem.W.nsIn K mainGlobals "corners_of" = some (some (.ref f2))) (l2 : K.lookup f2 = some ⟨oc2, od2, .func (PySem.W.fnOf "corners_of" "corners_of" (defArgs s_corners_of) (defBody s_corners_of) (defScope s_corners_of) .none kV2 dc2 pm2 an2 cd2 ct2), sl2⟩) (c2 : PySem.W.codeIn K cd2 "corners_of" = true) (k2 : PySem.W.keepIn K (.ref f2) = true)
    (a3 : PySem.W.nsIn K mainGlobals "spans_of" = some (some (.ref f3))) (l3 : K.lookup f3 = some ⟨oc3, od3, .func (PySem.W.fnOf "spans_of" "spans_of" (defArgs s_spans_of) (defBody s_spans_of) (defScope s_spans_of) .none kV3 dc3 pm3 an3 cd3 ct3), sl3⟩) (c3 : PySem.W.codeIn K cd3 "spans_of" = true) (k3 : PySem.W.keepIn K (.ref f3) = true)
    (a4 : PySem.W.nsIn K mainGlobals "shifts_by" = some (some (.ref f4))) (l4 : K.lookup f4 = some ⟨oc4, od4, .func (PySem.W.fnOf "shifts_by" "shifts_by" (defArgs s_shifts_by) (defBody s_shifts_by) (defScope s_shifts_by) .none kV4 dc4 pm4 an4 cd4 ct4), sl4⟩) (c4 : PySem.W.codeIn K cd4 "shifts_by" = true) (k4 : PySem.W.keepIn K (.ref f4) = true)
    (a5 : PySem.W.nsIn K mainGlobals "_law_cell_at" = some (some (.ref f5))) (l5 : K.lookup f5 = some ⟨oc5, od5, .func (PySem.W.fnOf "_law_cell_at" "_law_cell_at" (defArgs s_l_cell_at) (defBody s_l_cell_at) (defScope s_l_cell_at) .none kV5 dc5 pm5 an5 cd5 ct5), sl5⟩) (c5 : PySem.W.codeIn K cd5 "_law_cell_at" = true) (k5 : PySem.W.keepIn K (.ref f5) = true)
    (a6 : PySem.W.nsIn K mainGlobals "_law_step" = some (some (.ref f6))) (l6 : K.lookup f6 = some ⟨oc6, od6, .func (PySem.W.fnOf "_law_step" "_law_step" (defArgs s_l_step) (defBody s_l_step) (defScope s_l_step) .none kV6 dc6 pm6 an6 cd6 ct6), sl6⟩) (c6 : PySem.W.codeIn K cd6 "_law_step" = true) (k6 : PySem.W.keepIn K (.ref f6) = true)
    (a7 : PySem.W.nsIn K mainGlobals "_law_whole" = some (some (.ref f7))) (l7 : K.lookup f7 = some ⟨oc7, od7, .func (PySem.W.fnOf "_law_whole" "_law_whole" (defArgs s_l_whole) (defBody s_l_whole) (defScope s_l_whole) .none kV7 dc7 pm7 an7 cd7 ct7), sl7⟩) (c7 : PySem.W.codeIn K cd7 "_law_whole" = true) (k7 : PySem.W.keepIn K (.ref f7) = true)
    (a8 : PySem.W.nsIn K mainGlobals "_law_pair" = some (some (.ref f8))) (l8 : K.lookup f8 = some ⟨oc8, od8, .func (PySem.W.fnOf "_law_pair" "_law_pair" (defArgs s_l_pair) (defBody s_l_pair) (defScope s_l_pair) .none kV8 dc8 pm8 an8 cd8 ct8), sl8⟩) (c8 : PySem.W.codeIn K cd8 "_law_pair" = true) (k8 : PySem.W.keepIn K (.ref f8) = true)
    (a9 : PySem.W.nsIn K mainGlobals "_law_path" = some (some (.ref f9))) (l9 : K.lookup f9 = some ⟨oc9, od9, .func (PySem.W.fnOf "_law_path" "_law_path" (defArgs s_l_path) (defBody s_l_path) (defScope s_l_path) .none kV9 dc9 pm9 an9 cd9 ct9), sl9⟩) (c9 : PySem.W.codeIn K cd9 "_law_path" = true) (k9 : PySem.W.keepIn K (.ref f9) = true)
    (a10 : PySem.W.nsIn K mainGlobals "_law_back" = some (some (.ref f10))) (l10 : K.lookup f10 = some ⟨oc10, od10, .func (PySem.W.fnOf "_law_back" "_law_back" (defArgs s_l_back) (defBody s_l_back) (defScope s_l_back) .none kV10 dc10 pm10 an10 cd10 ct10), sl10⟩) (c10 : PySem.W.codeIn K cd10 "_law_back" = true) (k10 : PySem.W.keepIn K (.ref f10) = true)
    (a11 : PySem.W.nsIn K mainGlobals "_law_word" = some (some (.ref f11))) (l11 : K.lookup f11 = some ⟨oc11, od11, .func (PySem.W.fnOf "_law_word" "_law_word" (defArgs s_l_word) (defBody s_l_word) (defScope s_l_word) .none kV11 dc11 pm11 an11 cd11 ct11), sl11⟩) (c11 : PySem.W.codeIn K cd11 "_law_word" = true) (k11 : PySem.W.keepIn K (.ref f11) = true)
    (a12 : PySem.W.nsIn K mainGlobals "_law_letters" = some (some (.ref f12))) (l12 : K.lookup f12 = some ⟨oc12, od12, .func (PySem.W.fnOf "_law_letters" "_law_letters" (defArgs s_l_letters) (defBody s_l_letters) (defScope s_l_letters) .none kV12 dc12 pm12 an12 cd12 ct12), sl12⟩) (c12 : PySem.W.codeIn K cd12 "_law_letters" = true) (k12 : PySem.W.keepIn K (.ref f12) = true)
    (a13 : PySem.W.nsIn K mainGlobals "_law_stretches" = some (some (.ref f13))) (l13 : K.lookup f13 = some ⟨oc13, od13, .func (PySem.W.fnOf "_law_stretches" "_law_stretches" (defArgs s_l_stretches) (defBody s_l_stretches) (defScope s_l_stretches) .none kV13 dc13 pm13 an13 cd13 ct13), sl13⟩) (c13 : PySem.W.codeIn K cd13 "_law_stretches" = true) (k13 : PySem.W.keepIn K (.ref f13) = true)
    (a14 : PySem.W.nsIn K mainGlobals "_law_built" = some (some (.ref f14))) (l14 : K.lookup f14 = some ⟨oc14, od14, .func (PySem.W.fnOf "_law_built" "_law_built" (defArgs s_l_built) (defBody s_l_built) (defScope s_l_built) .none kV14 dc14 pm14 an14 cd14 ct14), sl14⟩) (c14 : PySem.W.codeIn K cd14 "_law_built" = true) (k14 : PySem.W.keepIn K (.ref f14) = true)
    (a15 : PySem.W.nsIn K mainGlobals "_law_cuts" = some (some (.ref f15))) (l15 : K.lookup f15 = some ⟨oc15, od15, .func (PySem.W.fnOf "_law_cuts" "_law_cuts" (defArgs s_l_cuts) (defBody s_l_cuts) (defScope s_l_cuts) .none kV15 dc15 pm15 an15 cd15 ct15), sl15⟩) (c15 : PySem.W.codeIn K cd15 "_law_cuts" = true) (k15 : PySem.W.keepIn K (.ref f15) = true)
    (a16 : PySem.W.nsIn K mainGlobals "_law_closed" = some (some (.ref f16))) (l16 : K.lookup f16 = some ⟨oc16, od16, .func (PySem.W.fnOf "_law_closed" "_law_closed" (defArgs s_l_closed) (defBody s_l_closed) (defScope s_l_closed) .none kV16 dc16 pm16 an16 cd16 ct16), sl16⟩) (c16 : PySem.W.codeIn K cd16 "_law_closed" = true) (k16 : PySem.W.keepIn K (.ref f16) = true)
    (a17 : PySem.W.nsIn K mainGlobals "_law_right" = some (some (.ref f17))) (l17 : K.lookup f17 = some ⟨oc17, od17, .func (PySem.W.fnOf "_law_right" "_law_right" (defArgs s_l_right) (defBody s_l_right) (defScope s_l_right) .none kV17 dc17 pm17 an17 cd17 ct17), sl17⟩) (c17 : PySem.W.codeIn K cd17 "_law_right" = true) (k17 : PySem.W.keepIn K (.ref f17) = true)
    (a18 : PySem.W.nsIn K mainGlobals "law" = some (some (.ref f18))) (l18 : K.lookup f18 = some ⟨oc18, od18, .func (PySem.W.fnOf "law" "law" (defArgs s_law) (defBody s_law) (defScope s_law) .none kV18 dc18 pm18 an18 cd18 ct18), sl18⟩) (c18 : PySem.W.codeIn K cd18 "law" = true) (k18 : PySem.W.keepIn K (.ref f18) = true)
    (z0 : PySem.W.nsIn K mainGlobals "bool" = some none)
    (z1 : PySem.W.nsIn K mainGlobals "enumerate" = some none)
    (z2 : PySem.W.nsIn K mainGlobals "int" = some none)
    (z3 : PySem.W.nsIn K mainGlobals "isinstance" = some none)
    (z4 : PySem.W.nsIn K mainGlobals "len" = some none)
    (z5 : PySem.W.nsIn K mainGlobals "list" = some none)
    (z6 : PySem.W.nsIn K mainGlobals "max" = some none)
    (z7 : PySem.W.nsIn K mainGlobals "range" = some none)
    (z8 : PySem.W.nsIn K mainGlobals "sorted" = some none)
    (z9 : PySem.W.nsIn K mainGlobals "tuple" = some none)
    (z10 : PySem.W.nsIn K mainGlobals "zip" = some none)
    {dA0 dB0_0 dB0_1 dB0_2 dB0_3 : Addr} {dT0_0 dX0_0_0 dX0_0_1 dT0_1 dX0_1_0 dX0_1_1 dT0_2 dX0_2_0 dX0_2_1 dT0_3 dX0_3_0 dX0_3_1 : Tok} {dE0 dN0_0 dN0_1 dN0_2 dN0_3 : Nat}
    (dQ0 : PySem.W.nsIn K mainGlobals "STEPS" = some (some (.ref dA0))) (dR0 : K.lookup dA0 = some ⟨.type "dict", none, .dict #[⟨PyData.keyHash w.params "e", .str "e" dT0_0, .ref dB0_0⟩, ⟨PyData.keyHash w.params "n", .str "n" dT0_1, .ref dB0_1⟩, ⟨PyData.keyHash w.params "w", .str "w" dT0_2, .ref dB0_2⟩, ⟨PyData.keyHash w.params "s", .str "s" dT0_3, .ref dB0_3⟩] dE0, #[]⟩) (dU0 : (dA0 == sysModules) = false)
    (dS0_0 : K.lookup dB0_0 = some ⟨.type "tuple", none, .seq #[.int 1 dX0_0_0, .int 0 dX0_0_1] dN0_0, #[]⟩)
    (dS0_1 : K.lookup dB0_1 = some ⟨.type "tuple", none, .seq #[.int 0 dX0_1_0, .int 1 dX0_1_1] dN0_1, #[]⟩)
    (dS0_2 : K.lookup dB0_2 = some ⟨.type "tuple", none, .seq #[.int (-1) dX0_2_0, .int 0 dX0_2_1] dN0_2, #[]⟩)
    (dS0_3 : K.lookup dB0_3 = some ⟨.type "tuple", none, .seq #[.int 0 dX0_3_0, .int (-1) dX0_3_1] dN0_3, #[]⟩)
    : ∃ fd : FuncData, (∀ (s : Shared) (v : Value), BindsTo s fd ⟨[v], []⟩ [("_law_script", v)]) ∧ ∀ base : Heap, K.In base → base.Ns mainGlobals mg → FnOk l.prog w K mg base CX0 4 fa fd ["_law_script"] (liftF K sp_law) := by
  have F0 := fun_mk (st := s_added) l0 c0 k0
  have b0 := F0.binds (ps := P_added) fun _ _ _ _ _ _ us hl => match us, hl with | [_, _], _ => rfl
  have F1 := fun_mk (st := s_taken) l1 c1 k1
  have b1 := F1.binds (ps := P_taken) fun _ _ _ _ _ _ us hl => match us, hl with | [_, _], _ => rfl
  have F2 := fun_mk (st := s_corners_of) l2 c2 k2
  have b2 := F2.binds (ps := P_corners_of) fun _ _ _ _ _ _ us hl => match us, hl with | [_, _], _ => rfl
  have F3 := fun_mk (st := s_spans_of) l3 c3 k3
  have b3 := F3.binds (ps := P_spans_of) fun _ _ _ _ _ _ us hl => match us, hl with | [_, _], _ => rfl
  have F4 := fun_mk (st := s_shifts_by) l4 c4 k4
  have b4 := F4.binds (ps := P_shifts_by) fun _ _ _ _ _ _ us hl => match us, hl with | [_, _], _ => rfl
  have F5 := fun_mk (st := s_l_cell_at) l5 c5 k5
  have b5 := F5.binds (ps := P_l_cell_at) fun _ _ _ _ _ _ us hl => match us, hl with | [_, _], _ => rfl
  have F6 := fun_mk (st := s_l_step) l6 c6 k6
  have b6 := F6.binds (ps := P_l_step) fun _ _ _ _ _ _ us hl => match us, hl with | [_], _ => rfl
  have F7 := fun_mk (st := s_l_whole) l7 c7 k7
  have b7 := F7.binds (ps := P_l_whole) fun _ _ _ _ _ _ us hl => match us, hl with | [_], _ => rfl
  have F8 := fun_mk (st := s_l_pair) l8 c8 k8
  have b8 := F8.binds (ps := P_l_pair) fun _ _ _ _ _ _ us hl => match us, hl with | [_, _], _ => rfl
  have F9 := fun_mk (st := s_l_path) l9 c9 k9
  have b9 := F9.binds (ps := P_l_path) fun _ _ _ _ _ _ us hl => match us, hl with | [_, _], _ => rfl
  have F10 := fun_mk (st := s_l_back) l10 c10 k10
  have b10 := F10.binds (ps := P_l_back) fun _ _ _ _ _ _ us hl => match us, hl with | [_], _ => rfl
  have F11 := fun_mk (st := s_l_word) l11 c11 k11
  have b11 := F11.binds (ps := P_l_word) fun _ _ _ _ _ _ us hl => match us, hl with | [_, _, _], _ => rfl
  have F12 := fun_mk (st := s_l_letters) l12 c12 k12
  have b12 := F12.binds (ps := P_l_letters) fun _ _ _ _ _ _ us hl => match us, hl with | [_, _, _, _], _ => rfl
  have F13 := fun_mk (st := s_l_stretches) l13 c13 k13
  have b13 := F13.binds (ps := P_l_stretches) fun _ _ _ _ _ _ us hl => match us, hl with | [_, _], _ => rfl
  have F14 := fun_mk (st := s_l_built) l14 c14 k14
  have b14 := F14.binds (ps := P_l_built) fun _ _ _ _ _ _ us hl => match us, hl with | [_, _], _ => rfl
  have F15 := fun_mk (st := s_l_cuts) l15 c15 k15
  have b15 := F15.binds (ps := P_l_cuts) fun _ _ _ _ _ _ us hl => match us, hl with | [_, _], _ => rfl
  have F16 := fun_mk (st := s_l_closed) l16 c16 k16
  have b16 := F16.binds (ps := P_l_closed) fun _ _ _ _ _ _ us hl => match us, hl with | [_, _], _ => rfl
  have F17 := fun_mk (st := s_l_right) l17 c17 k17
  have b17 := F17.binds (ps := P_l_right) fun _ _ _ _ _ _ us hl => match us, hl with | [_, _, _, _], _ => rfl
  have F18 := fun_mk (st := s_law) l18 c18 k18
  have b18 := F18.binds (ps := P_law) fun _ _ _ _ _ _ us hl => match us, hl with | [_], _ => rfl
  have T : Tx K mg w := ⟨⟨_, _, F0, PySem.W.mg_of X G a0, b0⟩, ⟨_, _, F1, PySem.W.mg_of X G a1, b1⟩, ⟨_, _, F2, PySem.W.mg_of X G a2, b2⟩, ⟨_, _, F3, PySem.W.mg_of X G a3, b3⟩, ⟨_, _, F4, PySem.W.mg_of X G a4, b4⟩, ⟨_, _, F5, PySem.W.mg_of X G a5, b5⟩, ⟨_, _, F6, PySem.W.mg_of X G a6, b6⟩, ⟨_, _, F7, PySem.W.mg_of X G a7, b7⟩, ⟨_, _, F8, PySem.W.mg_of X G a8, b8⟩, ⟨_, _, F9, PySem.W.mg_of X G a9, b9⟩, ⟨_, _, F10, PySem.W.mg_of X G a10, b10⟩, ⟨_, _, F11, PySem.W.mg_of X G a11, b11⟩, ⟨_, _, F12, PySem.W.mg_of X G a12, b12⟩, ⟨_, _, F13, PySem.W.mg_of X G a13, b13⟩, ⟨_, _, F14, PySem.W.mg_of X G a14, b14⟩, ⟨_, _, F15, PySem.W.mg_of X G a15, b15⟩, ⟨_, _, F16, PySem.W.mg_of X G a16, b16⟩, ⟨_, _, F17, PySem.W.mg_of X G a17, b17⟩, PySem.W.mg_none_of X G z0, PySem.W.mg_none_of X G z1, PySem.W.mg_none_of X G z2, PySem.W.mg_none_of X G z3, PySem.W.mg_none_of X G z4, PySem.W.mg_none_of X G z5, PySem.W.mg_none_of X G z6, PySem.W.mg_none_of X G z7, PySem.W.mg_none_of X G z8, PySem.W.mg_none_of X G z9, PySem.W.mg_none_of X G z10, ⟨_, PySem.W.mg_of X G dQ0, ⟨⟨_, _, _, dR0, ⟨rfl, rfl, rfl⟩, rfl, .cons (.tupI ⟨_, _, _, dS0_0, rfl, rfl, (by show 2 ≤ sizeLine; decide), .cons ⟨_, rfl⟩ (.cons ⟨_, rfl⟩ (.nil))⟩) (.cons (.tupI ⟨_, _, _, dS0_1, rfl, rfl, (by show 2 ≤ sizeLine; decide), .cons ⟨_, rfl⟩ (.cons ⟨_, rfl⟩ (.nil))⟩) (.cons (.tupI ⟨_, _, _, dS0_2, rfl, rfl, (by show 2 ≤ sizeLine; decide), .cons ⟨_, rfl⟩ (.cons ⟨_, rfl⟩ (.nil))⟩) (.cons (.tupI ⟨_, _, _, dS0_3, rfl, rfl, (by show 2 ≤ sizeLine; decide), .cons ⟨_, rfl⟩ (.cons ⟨_, rfl⟩ (.nil))⟩) (.nil))))⟩, by decide, dU0⟩⟩⟩
  have e := hfa.symm.trans (PySem.W.mg_of X G a18)
  cases e
  refine ⟨PySem.W.fnOf "law" "law" (defArgs s_law) (defBody s_law) (defScope s_law) .none kV18 dc18 pm18 an18 cd18 ct18, fun s v => .of_eq rfl, fun base _ _ => ?_⟩
  exact law_ok T F18
end Law
open PySem PySem.W PyProof.Rows
set_option maxRecDepth 100000 in
set_option maxHeartbeats 0 in
theorem PySem.Challenge.cw_borderfloor_k42_shifts_of_a_parting_holds : PySem.Challenge.rw_borderfloor_k42_shifts_of_a_parting.Holds := by
  w_on; o_law; k_head; (case hw => w_witness2)
  k_fill
  refine L2.walk_ofK (l := PySem.Challenge.rw_borderfloor_k42_shifts_of_a_parting) (n := 63) (k := 4) (x := "_law_script") (CX := L2.CX0) (sp := fun K => L3.liftF K Law.sp_law) rfl (by decide) rfl ⟨rfl, by decide, by decide⟩ (fun w h Y => PySem.W.kIn_of Y) ?F ?S (fun _ _ _ _ z => z)
  case F =>
    intro w mg fa h KX G hmg
    refine' Law.all_mk KX G hmg ?a0 ?l0 ?c0 ?k0 ?a1 ?l1 ?c1 ?k1 ?a2 ?l2 ?c2 ?k2 ?a3 ?l3 ?c3 ?k3 ?a4 ?l4 ?c4 ?k4 ?a5 ?l5 ?c5 ?k5 ?a6 ?l6 ?c6 ?k6 ?a7 ?l7 ?c7 ?k7 ?a8 ?l8 ?c8 ?k8 ?a9 ?l9 ?c9 ?k9 ?a10 ?l10 ?c10 ?k10 ?a11 ?l11 ?c11 ?k11 ?a12 ?l12 ?c12 ?k12 ?a13 ?l13 ?c13 ?k13 ?a14 ?l14 ?c14 ?k14 ?a15 ?l15 ?c15 ?k15 ?a16 ?l16 ?c16 ?k16 ?a17 ?l17 ?c17 ?k17 ?a18 ?l18 ?c18 ?k18 ?z0 ?z1 ?z2 ?z3 ?z4 ?z5 ?z6 ?z7 ?z8 ?z9 ?z10 ?dQ0 ?dR0 ?dU0 ?dS0_0 ?dS0_1 ?dS0_2 ?dS0_3
    (case a0 => k_is)
    (case l0 => k_is)
    (case c0 => k_is)
    (case k0 => k_is)
    (case a1 => k_is)
    (case l1 => k_is)
    (case c1 => k_is)
    (case k1 => k_is)
    (case a2 => k_is)
    (case l2 => k_is)
    (case c2 => k_is)
    (case k2 => k_is)
    (case a3 => k_is)
    (case l3 => k_is)
    (case c3 => k_is)
    (case k3 => k_is)
    (case a4 => k_is)
    (case l4 => k_is)
    (case c4 => k_is)
    (case k4 => k_is)
    (case a5 => k_is)
    (case l5 => k_is)
    (case c5 => k_is)
    (case k5 => k_is)
    (case a6 => k_is)
    (case l6 => k_is)
    (case c6 => k_is)
    (case k6 => k_is)
    (case a7 => k_is)
    (case l7 => k_is)
    (case c7 => k_is)
    (case k7 => k_is)
    (case a8 => k_is)
    (case l8 => k_is)
    (case c8 => k_is)
    (case k8 => k_is)
    (case a9 => k_is)
    (case l9 => k_is)
    (case c9 => k_is)
    (case k9 => k_is)
    (case a10 => k_is)
    (case l10 => k_is)
    (case c10 => k_is)
    (case k10 => k_is)
    (case a11 => k_is)
    (case l11 => k_is)
    (case c11 => k_is)
    (case k11 => k_is)
    (case a12 => k_is)
    (case l12 => k_is)
    (case c12 => k_is)
    (case k12 => k_is)
    (case a13 => k_is)
    (case l13 => k_is)
    (case c13 => k_is)
    (case k13 => k_is)
    (case a14 => k_is)
    (case l14 => k_is)
    (case c14 => k_is)
    (case k14 => k_is)
    (case a15 => k_is)
    (case l15 => k_is)
    (case c15 => k_is)
    (case k15 => k_is)
    (case a16 => k_is)
    (case l16 => k_is)
    (case c16 => k_is)
    (case k16 => k_is)
    (case a17 => k_is)
    (case l17 => k_is)
    (case c17 => k_is)
    (case k17 => k_is)
    (case a18 => k_is)
    (case l18 => k_is)
    (case c18 => k_is)
    (case k18 => k_is)
    (case z0 => k_is)
    (case z1 => k_is)
    (case z2 => k_is)
    (case z3 => k_is)
    (case z4 => k_is)
    (case z5 => k_is)
    (case z6 => k_is)
    (case z7 => k_is)
    (case z8 => k_is)
    (case z9 => k_is)
    (case z10 => k_is)
    (case dQ0 => k_is)
    (case dR0 => k_is)
    (case dU0 => rfl)
    (case dS0_0 => k_is)
    (case dS0_1 => k_is)
    (case dS0_2 => k_is)
    (case dS0_3 => k_is)
  case S => exact fun K H a ns hl hO hS => L3.start_law hO hS (Law.begin_law hl)
