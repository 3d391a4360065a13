import PyProof.Rows.All
import Wide.All
import OpenK.AllK
import Wide.FinOn
import Lean
import PyProof.EqAt
import PyProof.EqKinds
import PyProof.TupleCall
import PySem.Challenge.RW_borderfloor_k03_pieces_made
set_option Elab.async false
set_option linter.all false
set_option maxRecDepth 100000
/-! THE HAND LAYER, for ints, bools, texts, own classes, LISTS and tuples (index, slices, in, append, pop ..), calls, loops. Paste it whole ahead of your own text; what your proof does not reach may be deleted. -/
namespace L2
open PySem PySem.Spec PyProof.Rows

/-- a key: an int or a str -/
abbrev Key := Sum Int Str
def keyIs : Key → Value → Bool
  | .inl k, v => Value.isInt k v
  | .inr x, v => Value.isStrOf x v
def keyH (w : World) : Key → Int
  | .inl k => hashInt k
  | .inr x => hashStr w x
theorem keyIs_shape : ∀ {k : Key} {v : Value}, keyIs k v = true → (∃ i t, k = Sum.inl i ∧ v = Value.int i t) ∨ (∃ x t, k = Sum.inr x ∧ v = Value.str x t)
  | .inl i, v, h => by
    obtain ⟨t, e⟩ := Value.isInt_shape (k := i) (v := v) h
    exact .inl ⟨i, t, rfl, e⟩
  | .inr x, v, h => by
    obtain ⟨t, e⟩ := Value.isStrOf_shape (x := x) (v := v) h
    exact .inr ⟨x, t, rfl, e⟩
theorem keyIs_int (i : Int) (t : Tok) : keyIs (.inl i) (.int i t) = true := by simp [keyIs, Value.isInt]
theorem keyIs_str (x : Str) (t : Tok) : keyIs (.inr x) (.str x t) = true := by simp [keyIs, Value.isStrOf]
theorem key_ll (a b : Int) : decide ((Sum.inl a : Key) = Sum.inl b) = (a == b) := by
  by_cases e : a = b
  · subst e; simp
  · have h : ¬ (Sum.inl a : Key) = Sum.inl b := fun q => e (Sum.inl.inj q)
    rw [decide_eq_false h]
    exact (beq_eq_false_iff_ne.mpr e).symm
theorem key_rr (a b : Str) : decide ((Sum.inr a : Key) = Sum.inr b) = decide (a = b) := by
  by_cases e : a = b
  · subst e; simp
  · have h : ¬ (Sum.inr a : Key) = Sum.inr b := fun q => e (Sum.inr.inj q)
    rw [decide_eq_false h, decide_eq_false e]
theorem key_lr (a : Int) (b : Str) : decide ((Sum.inl a : Key) = Sum.inr b) = false := decide_eq_false (fun q => nomatch q)
theorem key_rl (a : Str) (b : Int) : decide ((Sum.inr a : Key) = Sum.inl b) = false := decide_eq_false (fun q => nomatch q)

def mixKind (prog : Program) (w : World) : PySem.KeyKind prog w Key where
  is := keyIs
  hash := keyH w
  inj := fun v a b ha hb => by
    rcases keyIs_shape ha with ⟨i, t, rfl, rfl⟩ | ⟨x, t, rfl, rfl⟩
    · rcases keyIs_shape hb with ⟨j, u, rfl, e⟩ | ⟨y, u, rfl, e⟩
      · injection e with e1 _; rw [e1]
      · exact nomatch e
    · rcases keyIs_shape hb with ⟨j, u, rfl, e⟩ | ⟨y, u, rfl, e⟩
      · exact nomatch e
      · injection e with e1 _; rw [e1]
  byValue := fun k v h => by
    rcases keyIs_shape h with ⟨i, t, rfl, rfl⟩ | ⟨x, t, rfl, rfl⟩ <;> rfl
  pyHash := fun hv h => by
    rcases keyIs_shape hv with ⟨i, t, rfl, rfl⟩ | ⟨x, t, rfl, rfl⟩
    · exact wpAny_pyHash_int h
    · exact wpAny_pyHash_str h
  eqBool := fun hu hv h => by
    rcases keyIs_shape hu with ⟨i, t, rfl, rfl⟩ | ⟨x, t, rfl, rfl⟩
    · rcases keyIs_shape hv with ⟨j, u, rfl, rfl⟩ | ⟨y, u, rfl, rfl⟩
      · rw [key_ll] at h; exact wpAny_eqBool_int h
      · rw [key_lr] at h; exact SeqAt.EqAt.int_str i t y u _ _ _ _ h
    · rcases keyIs_shape hv with ⟨j, u, rfl, rfl⟩ | ⟨y, u, rfl, rfl⟩
      · rw [key_rl] at h; exact SeqAt.EqAt.str_int x t j u _ _ _ _ h
      · rw [key_rr] at h; exact wpAny_eqBool_str h
  «strs» := fun k x t v h => by
    rcases keyIs_shape h with ⟨i, u, rfl, e⟩ | ⟨y, u, rfl, e⟩
    · exact nomatch e
    · injection e with e1 _
      subst e1
      cases v <;> rfl

theorem mixKind_is (prog : Program) (w : World) (k : Key) (v : Value) : (mixKind prog w).is k v = keyIs k v := rfl
theorem mixKind_int (prog : Program) (w : World) (i : Int) (t : Tok) : (mixKind prog w).is (.inl i) (.int i t) = true := keyIs_int i t
theorem mixKind_str (prog : Program) (w : World) (x : Str) (t : Tok) : (mixKind prog w).is (.inr x) (.str x t) = true := keyIs_str x t
end L2

namespace L2
open PySem PySem.Spec PyProof.Rows

/-- a value, without the heap -/
inductive V where
  | non | bl (b : Bool) | int (i : Int) | str (x : Str) | byt (b : Array UInt8) | flt (b : UInt64) | ref (a : Addr) | ty (n : String)
  deriving DecidableEq

def RelV : V → Value → Prop
  | .non, u => u = Value.none
  | .bl b, u => u = Value.bool b
  | .int i, u => ∃ t, u = Value.int i t
  | .str x, u => ∃ t, u = Value.str x t
  | .byt b, u => ∃ t, u = Value.bytes b t
  | .flt b, u => ∃ t, u = Value.float b t
  | .ref a, u => u = Value.ref a
  | .ty n, u => u = Value.type n

abbrev Vals : List V → List Value → Prop := Paired RelV
theorem Vals.length {xs : List V} {us : List Value} (r : Vals xs us) : xs.length = us.length := Paired.length r
theorem Vals.get : ∀ {xs : List V} {us : List Value} {i : Nat} {x : V}, Vals xs us → xs[i]? = some x → ∃ u, us[i]? = some u ∧ RelV x u
  | _, _, _, _, .nil, e => by simp at e
  | _, _, 0, _, .cons r _, e => by simp at e; subst e; exact ⟨_, rfl, r⟩
  | _, _, i + 1, x, .cons _ t, e => by
    obtain ⟨u, h1, h2⟩ := Vals.get (i := i) (x := x) t (by simpa using e)
    exact ⟨u, by simpa using h1, h2⟩
theorem Vals.set {x : V} {u : Value} (r : RelV x u) : ∀ {xs : List V} {us : List Value} (i : Nat), Vals xs us → Vals (xs.set i x) (us.set i u)
  | _, _, _, .nil => .nil
  | _, _, 0, .cons _ t => .cons r t
  | _, _, i + 1, .cons q t => .cons q (Vals.set r i t)
theorem Vals.append : ∀ {xs ys : List V} {us ws : List Value}, Vals xs us → Vals ys ws → Vals (xs ++ ys) (us ++ ws)
  | _, _, _, _, .nil, s => s
  | _, _, _, _, .cons r t, s => .cons r (Vals.append t s)
theorem Vals.take : ∀ {xs : List V} {us : List Value} (n : Nat), Vals xs us → Vals (xs.take n) (us.take n)
  | _, _, 0, _ => .nil
  | _, _, _ + 1, .nil => .nil
  | _, _, n + 1, .cons r t => .cons r (Vals.take n t)
theorem Vals.drop : ∀ {xs : List V} {us : List Value} (n : Nat), Vals xs us → Vals (xs.drop n) (us.drop n)
  | _, _, 0, r => r
  | _, _, _ + 1, .nil => .nil
  | _, _, n + 1, .cons _ t => Vals.drop n t
theorem Vals.none_of : ∀ {xs : List V} {us : List Value} {i : Nat}, Vals xs us → xs[i]? = none → us[i]? = none := fun {xs us i} r e => by
  have h1 := r.length
  have h2 : xs.length ≤ i := List.getElem?_eq_none_iff.mp e
  exact List.getElem?_eq_none_iff.mpr (by omega)

def RelO : Option V → Option Value → Prop
  | some v, some u => RelV v u
  | none, none => True
  | _, _ => False
def KV {κ : Type} : List (κ × V) → List (κ × Value) → Prop := Paired fun (p : κ × V) (q : κ × Value) => p.1 = q.1 ∧ RelV p.2 q.2

/-- a key of a dict (00_mix): an int or a text -/
def kV : Key → V
  | .inl i => .int i
  | .inr x => .str x

/-- what stands at a tracked address -/
inductive HO where
  /-- a list -/
  | lst (xs : List V)
  /-- a tuple (never changes) -/
  | tup (xs : List V)
  /-- a dict whose keys are ints and texts; one whose keys are tuples of ints and texts (the empty one is both) -/
  | dK (kvs : List (Key × V)) | dT (kvs : List (List Key × V))
  /-- a set of ints: its members, its size -/
  | set (S : Int → Bool) (n : Nat)
  /-- an instance of the class at C, its dict at dx, its attributes -/
  | ins (C dx : Addr) (fs : List (Str × V))
  /-- the dict of the instance at x -/
  | own (x : Addr)
  /-- the dict of an exception -/
  | xd (fs : List (Str × V))
  /-- a bound method, f of x -/
  | met (f x : Addr)
  /-- a range object lo, lo + 1, .. below hi -/
  | rng (lo hi : Int)
  /-- a thing that is known to the object (the script; a dict while a loop walks it): read, never written while it is so -/
  | frz (o : Obj) (u : HO)
  /-- a code object's table -/
  | tbl (ps : Array Value)
  /-- any other thing, by what is true of its one object (a def of one's own: SetO a S n := HO.ext fun h => ..) -/
  | ext (φ : Heap → Prop)

abbrev Hp := Addr → Option HO
def upd (H : Hp) (a : Addr) (o : HO) : Hp := fun b => if b = a then some o else H b
theorem upd_same {H : Hp} {a : Addr} {o : HO} : upd H a o a = some o := by unfold upd; rw [if_pos rfl]
theorem upd_ne {H : Hp} {a b : Addr} {o : HO} (h : b ≠ a) : upd H a o b = H b := by unfold upd; rw [if_neg h]
theorem upd_upd {H : Hp} {a : Addr} {o u : HO} : upd (upd H a o) a u = upd H a u := by
  funext b; unfold upd; split <;> rfl
/-- two objects of different content stand apart -/
theorem ne_of {H : Hp} {a b : Addr} {o u : HO} (h : H a = some o) (h' : H b = some u) (d : o ≠ u) : a ≠ b := by
  intro e; subst e; rw [h] at h'; exact d (Option.some.inj h')
theorem ne_of_none {H : Hp} {a b : Addr} {o : HO} (h : H a = some o) (h' : H b = none) : a ≠ b := by
  intro e; subst e; rw [h] at h'; cases h'

section
variable (P : Program) (w : World)
def ObjOk (H : Hp) (h : Heap) (a : Addr) : HO → Prop
  | .lst xs => xs.length ≤ sizeLine ∧ ∃ (its : List Value) (n : Nat), Vals xs its ∧ h.get? a = some { cls := .type "list", data := .seq its.toArray n }
  | .tup xs => xs.length ≤ sizeLine ∧ ∃ its : List Value, Vals xs its ∧ IsTup h a its.toArray
  | .dK kvs => kvs.length ≤ sizeLine ∧ (a == sysModules) = false ∧ ∃ vs, KV kvs vs ∧ h.DictOf (mixKind P w) a vs
  | .dT kvs => kvs.length ≤ sizeLine ∧ (a == sysModules) = false ∧ ∃ xs : List (List Key × Addr × Value),
      Paired (fun (p : List Key × V) (q : List Key × Addr × Value) => p.1 = q.1 ∧ H q.2.1 = some (.tup (p.1.map kV)) ∧ RelV p.2 q.2.2) kvs xs ∧
      ∃ o es ep, h.get? a = some o ∧ o.ExactDict ∧ o.data = .dict es ep ∧ es.toList = xs.map (entryOfKey (tupleKind (mixKind P w))) ∧ (xs.map (·.1)).Nodup
  | .set S n => h.SetOf (intKind P w) a S n
  | .ins C dx fs => H dx = some (.own a) ∧ fs.length ≤ 1000 ∧ dx ≠ a ∧ h.get? a = some (PySem.W.instObj C dx) ∧
      ∃ mA, h.Ns1 dx mA ∧ (∀ f, RelO (fs.lookup f) (mA f)) ∧ PySem.Within mA (fs.map (·.1))
  | .own _ => ∃ o, h.get? a = some o
  | .xd fs => ∃ mA, h.Ns1 a mA ∧ ∀ f, RelO (fs.lookup f) (mA f)
  | .rng lo hi => ∃ t u v, h.get? a = some { cls := .type "range", data := .fields #[.int lo t, .int hi u, .int 1 v] }
  | .frz o u => h.get? a = some o ∧ ObjOk H h a u
  | .tbl ps => h.get? a = some { cls := .none, data := .fields ps }
  | .met f x => h.get? a = some (PySem.W.methodObj (.ref f) (.ref x))
  | .ext φ => φ h ∧ (∃ o, h.get? a = some o) ∧ ∀ h1 h2 : Heap, φ h1 → (∀ o, h1.get? a = some o → h2.get? a = some o) → φ h2
/-- the abstract heap is held -/
def HOk (H : Hp) (h : Heap) : Prop := ∀ a o, H a = some o → ObjOk P w H h a o
end

section
variable {P : Program} {w : World} {H H' : Hp} {h h' : Heap} {a : Addr} {o : HO}
theorem ObjOk.lt (x : ObjOk P w H h a o) : a < h.objs.size := by
  cases o with
  | lst xs => obtain ⟨_, _, _, _, e⟩ := x; exact Heap.lt_size e
  | tup xs => obtain ⟨_, _, _, p⟩ := x; exact p.lt
  | dK kvs => obtain ⟨_, _, _, _, o, _, _, e, _⟩ := x; exact Heap.lt_size e
  | dT kvs => obtain ⟨_, _, _, _, o, _, _, e, _⟩ := x; exact Heap.lt_size e
  | set S n => obtain ⟨o, _, _, _, e, _⟩ := x; exact Heap.lt_size e
  | ins C dx fs => obtain ⟨_, _, _, e, _⟩ := x; exact Heap.lt_size e
  | own y => obtain ⟨_, e⟩ := x; exact Heap.lt_size e
  | xd fs => obtain ⟨_, ⟨_, _, _, e, _⟩, _⟩ := x; exact Heap.lt_size e
  | rng lo hi => obtain ⟨_, _, _, e⟩ := x; exact Heap.lt_size e
  | frz ob u => obtain ⟨e, _⟩ := x; exact Heap.lt_size e
  | tbl ps => exact Heap.lt_size (show h.get? a = some _ from x)
  | met f y => exact Heap.lt_size (show h.get? a = some _ from x)
  | ext φ => obtain ⟨_, ⟨_, e⟩, _⟩ := x; exact Heap.lt_size e
theorem Paired.mapP {α β : Type} {F G : α → β → Prop} : ∀ {l₁ : List α} {l₂ : List β}, Paired F l₁ l₂ → (∀ a b, F a b → G a b) → Paired G l₁ l₂
  | _, _, .nil, _ => .nil
  | _, _, .cons r t, f => .cons (f _ _ r) (Paired.mapP t f)
theorem Paired.imp' {α β : Type} {F G : α → β → Prop} (f : ∀ a b, F a b → G a b) {l₁ : List α} {l₂ : List β} (r : Paired F l₁ l₂) : Paired G l₁ l₂ := Paired.mapP r f
/-- what an object's description leans on: its own object, its own dict, the tuples -/
theorem ObjOk.stay (x : ObjOk P w H h a o) (k : ∀ b u, (b = a ∨ H b = some (.own a)) → h.get? b = some u → h'.get? b = some u)
    (ho : ∀ b, H b = some (.own a) → H' b = some (.own a)) (ht : ∀ b xs, H b = some (.tup xs) → H' b = some (.tup xs)) : ObjOk P w H' h' a o := by
  induction o with
  | lst xs => obtain ⟨z, its, n, r, e⟩ := x; exact ⟨z, its, n, r, k _ _ (.inl rfl) e⟩
  | tup xs => obtain ⟨z, its, r, ob, e, c⟩ := x; exact ⟨z, its, r, ob, k _ _ (.inl rfl) e, c⟩
  | dK kvs => obtain ⟨z, y, vs, r, ob, es, ep, e, c⟩ := x; exact ⟨z, y, vs, r, ob, es, ep, k _ _ (.inl rfl) e, c⟩
  | dT kvs =>
    obtain ⟨z, y, xs, r, ob, es, ep, e, c⟩ := x
    exact ⟨z, y, xs, Paired.mapP r fun p q z => ⟨z.1, ht _ _ z.2.1, z.2.2⟩, ob, es, ep, k _ _ (.inl rfl) e, c⟩
  | set S n => obtain ⟨ob, es, ep, t, e, c⟩ := x; exact ⟨ob, es, ep, t, k _ _ (.inl rfl) e, c⟩
  | ins C dx fs =>
    obtain ⟨d, z, ne, e, mA, ⟨od, es, ep, e2, c⟩, r⟩ := x
    exact ⟨ho _ d, z, ne, k _ _ (.inl rfl) e, mA, ⟨od, es, ep, k _ _ (.inr d) e2, c⟩, r⟩
  | own y => obtain ⟨ob, e⟩ := x; exact ⟨ob, k _ _ (.inl rfl) e⟩
  | xd fs => obtain ⟨mA, ⟨od, es, ep, e, c⟩, r⟩ := x; exact ⟨mA, ⟨od, es, ep, k _ _ (.inl rfl) e, c⟩, r⟩
  | rng lo hi => obtain ⟨t, u, v, e⟩ := x; exact ⟨t, u, v, k _ _ (.inl rfl) e⟩
  | frz ob u ih => obtain ⟨e, q⟩ := x; exact ⟨k _ _ (.inl rfl) e, ih q⟩
  | tbl ps =>
    have e : h.get? a = some { cls := .none, data := .fields ps } := x
    show h'.get? a = some { cls := .none, data := .fields ps }
    exact k a _ (.inl rfl) e
  | met f y =>
    have e : h.get? a = some (PySem.W.methodObj (.ref f) (.ref y)) := x
    show h'.get? a = some (PySem.W.methodObj (.ref f) (.ref y))
    exact k a _ (.inl rfl) e
  | ext φ => obtain ⟨p, ⟨o, e⟩, st⟩ := x; exact ⟨st _ _ p fun o q => k _ _ (.inl rfl) q, ⟨o, k _ _ (.inl rfl) e⟩, st⟩
theorem HOk.lt (x : HOk P w H h) (e : H a = some o) : a < h.objs.size := (x a o e).lt
theorem HOk.fresh (x : HOk P w H h) (e : h.objs.size ≤ a) : H a = none := by
  cases q : H a with
  | none => rfl
  | some u => exact absurd (Nat.lt_of_lt_of_le (x.lt q) e) (Nat.lt_irrefl _)
/-- every object of the heap is kept -/
theorem HOk.kept (x : HOk P w H h) (k : ∀ b u, h.get? b = some u → h'.get? b = some u) : HOk P w H h' := fun a o e =>
  (x a o e).stay (fun b u _ q => k b u q) (fun _ q => q) fun _ _ q => q
/-- a new object is laid and tracked -/
theorem HOk.laid (x : HOk P w H h) (k : ∀ b u, h.get? b = some u → h'.get? b = some u) (hp : h.objs.size ≤ a) (new : ObjOk P w (upd H a o) h' a o) : HOk P w (upd H a o) h' := fun b u e => by
  have hn := x.fresh hp
  by_cases hb : b = a
  · subst hb; rw [upd_same] at e; cases e; exact new
  · rw [upd_ne hb] at e
    exact (x b u e).stay (fun c v _ q => k c v q) (fun c q => by rw [upd_ne (ne_of_none q hn)]; exact q) fun c xs q => by rw [upd_ne (ne_of_none q hn)]; exact q
end

/-- what may be read as u: it is u, or a known u -/
def Rd (H : Hp) (a : Addr) (u : HO) : Prop := H a = some u ∨ ∃ o, H a = some (.frz o u)
theorem Rd.of {H : Hp} {a : Addr} {u : HO} (h : H a = some u) : Rd H a u := .inl h
theorem Rd.ok {P : Program} {w : World} {H : Hp} {h : Heap} {a : Addr} {u : HO} (r : Rd H a u) (x : HOk P w H h) : ObjOk P w H h a u := by
  rcases r with r | ⟨o, r⟩
  · exact x a u r
  · obtain ⟨_, q⟩ := x a _ r
    exact q
/-- what may be written -/
def Mut : Option HO → Prop
  | some (.lst _) => True
  | some (.dK _) => True
  | some (.dT _) => True
  | some (.set _ _) => True
  | some (.ins _ _ _) => True
  | some (.ext _) => True
  | _ => False
section
variable {P : Program} {w : World} {H : Hp} {h h' : Heap} {x e : Addr} {o' : HO}
/-- the object at e is changed: x itself, or the dict of the instance x -/
theorem HOk.write (ok : HOk P w H h) (mu : Mut (H x)) (he : e = x ∨ H e = some (.own x)) (k : ∀ b u, b ≠ e → h.get? b = some u → h'.get? b = some u) (heo : ∃ u, h'.get? e = some u)
    (new : ObjOk P w (upd H x o') h' x o') : HOk P w (upd H x o') h' := fun b u q => by
  have nown : ∀ c y, H c = some (.own y) → c ≠ x := fun c y r z => by subst z; rw [r] at mu; exact mu
  have ntup : ∀ c xs, H c = some (.tup xs) → c ≠ x := fun c xs r z => by subst z; rw [r] at mu; exact mu
  by_cases hb : b = x
  · subst hb; rw [upd_same] at q; cases q; exact new
  · rw [upd_ne hb] at q
    by_cases hbe : b = e
    · have q' : H b = some (.own x) := by
        rcases he with z | z
        · exact absurd (hbe.trans z) hb
        · rw [hbe]; exact z
      rw [q] at q'; cases q'
      obtain ⟨v, hv⟩ := heo
      exact ⟨v, by rw [hbe]; exact hv⟩
    · refine (ok b u q).stay (fun c v hc r => k c v ?_ r) (fun c r => by rw [upd_ne (nown c b r)]; exact r) fun c xs r => by rw [upd_ne (ntup c xs r)]; exact r
      rcases hc with rfl | hc
      · exact hbe
      · rintro rfl
        rcases he with z | z
        · exact nown c b hc z
        · rw [hc] at z; cases z; exact hb rfl
end

/-! ### kept unless tracked; of the frames at fs (the callers') the slots may change (an exception that passes writes there); of the records at ex (iterators) nothing is said -/
structure Un (fs ex : List Addr) (H H' : Hp) (h h' : Heap) : Prop where
  keep : ∀ b o, h.get? b = some o → H b = none → b ∉ fs → b ∉ ex → h'.get? b = some o
  slot : ∀ b o, h.get? b = some o → H b = none → b ∈ fs → b ∉ ex → ∃ sl, h'.get? b = some { o with slots := sl }
  free : ∀ b o, h.get? b = some o → H b = none → b ∉ ex → H' b = none
  there : ∀ b o, h.get? b = some o → b ∉ ex → ∃ o', h'.get? b = some o'
  tups : ∀ b xs, H b = some (.tup xs) → H' b = some (.tup xs)
  frzs : ∀ b o u, H b = some (.frz o u) → H' b = some (.frz o u)
  tbls : ∀ b ps, H b = some (.tbl ps) → ∃ more, H' b = some (.tbl (ps ++ more))
section
variable {fs fs' ex ex' : List Addr} {H H1 H2 : Hp} {h h1 h2 h' : Heap} {a x e : Addr} {o : HO}
theorem Un.any (u : Un fs ex H H1 h h1) {b : Addr} {ob : Obj} (q : h.get? b = some ob) (n : H b = none) (hx : b ∉ ex) : ∃ sl, h1.get? b = some { ob with slots := sl } := by
  by_cases hb : b ∈ fs
  · exact u.slot b ob q n hb hx
  · exact ⟨ob.slots, u.keep b ob q n hb hx⟩
theorem Un.trans (a : Un fs ex H H1 h h1) (b : Un fs ex H1 H2 h1 h2) : Un fs ex H H2 h h2 where
  keep := fun c ob q n hc hx => b.keep c ob (a.keep c ob q n hc hx) (a.free c ob q n hx) hc hx
  slot := fun c ob q n hc hx => by
    obtain ⟨sl, e1⟩ := a.slot c ob q n hc hx
    obtain ⟨sl', e2⟩ := b.slot c _ e1 (a.free c ob q n hx) hc hx
    exact ⟨sl', e2⟩
  free := fun c ob q n hx => by
    obtain ⟨o', e1⟩ := a.there c ob q hx
    exact b.free c o' e1 (a.free c ob q n hx) hx
  there := fun c ob q hx => by
    obtain ⟨o', e1⟩ := a.there c ob q hx
    exact b.there c o' e1 hx
  tups := fun c xs q => b.tups c xs (a.tups c xs q)
  frzs := fun c ob xs q => b.frzs c ob xs (a.frzs c ob xs q)
  tbls := fun c ps q => by
    obtain ⟨m1, e1⟩ := a.tbls c ps q
    obtain ⟨m2, e2⟩ := b.tbls c _ e1
    exact ⟨m1 ++ m2, by rw [e2, Array.append_assoc]⟩
theorem Un.kept (k : ∀ b u, h.get? b = some u → h'.get? b = some u) : Un fs ex H H h h' :=
  ⟨fun b ob q _ _ _ => k b ob q, fun b ob q _ _ _ => ⟨ob.slots, k b ob q⟩, fun _ _ _ n _ => n, fun b ob q _ => ⟨ob, k b ob q⟩, fun _ _ q => q, fun _ _ _ q => q, fun _ ps q => ⟨#[], by rw [q]; simp⟩⟩
theorem Un.refl : Un fs ex H H h h := Un.kept fun _ _ q => q
theorem Un.laid (k : ∀ b u, h.get? b = some u → h'.get? b = some u) (hp : h.objs.size ≤ a) (hn : H a = none) : Un fs ex H (upd H a o) h h' where
  keep := fun b u q _ _ _ => k b u q
  slot := fun b u q _ _ _ => ⟨u.slots, k b u q⟩
  free := fun b u q n _ => by rw [upd_ne (Nat.ne_of_lt (Nat.lt_of_lt_of_le (Heap.lt_size q) hp))]; exact n
  there := fun b u q _ => ⟨u, k b u q⟩
  tups := fun b xs q => by rw [upd_ne (ne_of_none q hn)]; exact q
  frzs := fun b u xs q => by rw [upd_ne (ne_of_none q hn)]; exact q
  tbls := fun b ps q => ⟨#[], by rw [upd_ne (ne_of_none q hn), q]; simp⟩
theorem Un.write (mu : Mut (H x)) (he : e = x ∨ H e = some (.own x)) (k : ∀ b u, b ≠ e → h.get? b = some u → h'.get? b = some u) (heo : ∃ u, h'.get? e = some u) : Un fs ex H (upd H x o) h h' := by
  have hx : ∀ b, H b = none → b ≠ x := fun b n z => by subst z; rw [n] at mu; exact mu
  have hb : ∀ b, H b = none → b ≠ e := fun b n z => by
    subst z
    rcases he with r | r
    · exact hx b n r
    · rw [n] at r; cases r
  have hm : ∀ b u, H b = some u → ¬ Mut (some u) → b ≠ x := fun b u q nm z => by subst z; rw [q] at mu; exact nm mu
  refine ⟨fun b u q n _ _ => k b u (hb b n) q, fun b u q n _ _ => ⟨u.slots, k b u (hb b n) q⟩, fun b u q n _ => by rw [upd_ne (hx b n)]; exact n, fun b u q _ => ?_,
    fun b xs q => by rw [upd_ne (hm b _ q fun z => z)]; exact q, fun b u xs q => by rw [upd_ne (hm b _ q fun z => z)]; exact q, fun b ps q => ⟨#[], by rw [upd_ne (hm b _ q fun z => z), q]; simp⟩⟩
  by_cases hbe : b = e
  · subst hbe; exact heo
  · exact ⟨u, k b u hbe q⟩
theorem Un.mono (u : Un fs ex H H1 h h1) (hs : ∀ b ∈ fs, b ∈ fs') (hx : ∀ b ∈ ex, b ∈ ex') : Un fs' ex' H H1 h h1 :=
  ⟨fun b ob q n hb he => u.keep b ob q n (fun z => hb (hs b z)) fun z => he (hx b z), fun _ _ q n _ he => u.any q n fun z => he (hx _ z), fun b ob q n he => u.free b ob q n fun z => he (hx b z), fun b ob q he => u.there b ob q fun z => he (hx b z), u.tups, u.frzs, u.tbls⟩
end

/-! ### the heap without what is tracked -/
def trk (h : Heap) (H : Hp) : List Addr := (List.range h.objs.size).filter fun a => (H a).isSome
def hidT (h : Heap) (H : Hp) : Heap := PySem.W.hideAll h (trk h H)
theorem hidT_size (h : Heap) (H : Hp) : (hidT h H).objs.size = h.objs.size := PySem.W.hideAll_size _ _
theorem hidT_get {h : Heap} {H : Hp} {b : Addr} {o : Obj} (e : h.get? b = some o) (n : H b = none) : (hidT h H).get? b = some o :=
  PySem.W.hideAll_get _ e fun hm => by
    have q : (H b).isSome = true := (List.mem_filter.mp hm).2
    rw [n] at q; simp at q
theorem of_hidT {h : Heap} {H : Hp} {b : Addr} {o : Obj} (e : (hidT h H).get? b = some o) : h.get? b = some o ∧ H b = none := by
  have e' : h.get? b = some o := PySem.W.of_hideAll (trk h H) e
  refine ⟨e', ?_⟩
  cases q : H b with
  | none => rfl
  | some x =>
    have hm : b ∈ trk h H := List.mem_filter.mpr ⟨List.mem_range.mpr (Heap.lt_size e'), by simp [q]⟩
    have z : (hidT h H).get? b = none := PySem.W.hideAll_none (trk h H) hm
    rw [z] at e; cases e

/-! ### OpenK's ledger, filled with every new object but one -/
def allNews (g h : Heap) (L : Addr) : List (Addr × Obj) := (List.range h.objs.size).filterMap fun a => if a = L ∨ (g.get? a).isSome = true then none else (h.get? a).map fun o => (a, o)
theorem mem_allNews {g h : Heap} {L a : Addr} {o : Obj} (h1 : a ≠ L) (h2 : g.get? a = none) (h3 : h.get? a = some o) : (a, o) ∈ allNews g h L :=
  List.mem_filterMap.mpr ⟨a, List.mem_range.mpr (Heap.lt_size h3), by simp [h1, h2, h3]⟩
theorem of_mem_allNews {g h : Heap} {L : Addr} {p : Addr × Obj} (hp : p ∈ allNews g h L) : p.1 ≠ L ∧ g.get? p.1 = none ∧ h.get? p.1 = some p.2 := by
  obtain ⟨b, _, e⟩ := List.mem_filterMap.mp hp
  split at e
  · cases e
  · rename_i hn
    cases q : h.get? b with
    | none => rw [q] at e; simp at e
    | some u =>
      rw [q] at e
      simp only [Option.map_some, Option.some.injEq] at e
      subst e
      refine ⟨fun z => hn (.inl z), ?_, q⟩
      show g.get? b = none
      cases r : g.get? b with
      | none => rfl
      | some v => exact (hn (.inr (by simp [r]))).elim
def rest (g h : Heap) (L d : Addr) : List (Addr × Obj) := (allNews g h L).filter fun p => decide (p.1 ≠ d)
theorem rest_ne {g h : Heap} {L d : Addr} : ∀ p ∈ rest g h L d, p.1 ≠ d := fun p hp => of_decide_eq_true (List.mem_filter.mp hp).2
theorem mem_rest {g h : Heap} {L d a : Addr} {o : Obj} (h1 : a ≠ L) (h2 : g.get? a = none) (h3 : h.get? a = some o) (h4 : a ≠ d) : (a, o) ∈ rest g h L d :=
  List.mem_filter.mpr ⟨mem_allNews h1 h2 h3, decide_eq_true h4⟩
theorem news_all {g h : Heap} {L : Addr} : News g L h (allNews g h L) := fun p hp => let ⟨a, b, c⟩ := of_mem_allNews hp; ⟨c, a, b⟩
theorem news_at {g h : Heap} {L d : Addr} {o : Obj} (h1 : d ≠ L) (h2 : g.get? d = none) (h3 : h.get? d = some o) : News g L h ((d, o) :: rest g h L d) := fun p hp => by
  rcases List.mem_cons.mp hp with rfl | hp
  · exact ⟨h3, h1, h2⟩
  · exact news_all p (List.mem_filter.mp hp).1
/-- behind a rule that changed d alone: all else but the frame is kept -/
theorem kept_of_news {g h h' : Heap} {L d : Addr} {m : Str → Option Value} (k : ∀ b o, g.get? b = some o → h.get? b = some o) (F : Fr g L h' m) (N : News g L h' (rest g h L d)) :
    ∀ b o, b ≠ L → b ≠ d → h.get? b = some o → h'.get? b = some o := fun b o h1 h2 e => by
  cases q : g.get? b with
  | some u =>
    have := k b u q
    rw [e] at this; cases this
    exact F.keep b _ q
  | none => exact (N (b, o) (mem_rest h1 q e h2)).1
end L2

namespace L2
open PySem PySem.Spec PyProof.Rows

/-- the module's facts, over the base: the heap at the law's entry without what is tracked there -/
structure Mod (K : PySem.W.Frag) (mg : Str → Option Value) (base : Heap) : Prop where
  kin : K.In base
  glob : base.Ns mainGlobals mg
  blt : ∃ mb, base.Ns builtinsNs mb ∧ ∀ x : Str, x ≠ "__name__" → mb x = bootBuiltins x
  nolimit : base.NoLimit

/-- the context: a def's body (or a comprehension's block) running. base: fixed through the whole law; s₀, H₀: the entry; outer: the frames whose slots others may change (a def's callers); stack: all frames that run;
   ex: iterators that were made ahead of the entry and are walked here (a comprehension's); fn: the names whose cells were made at the entry (a def: all; a comprehension's block: its own); calm: not within an except suite; pn: pins that every state bears; xe: what is wanted of an exception that leaves the code -/
structure Cx where
  prog : Program
  w : World
  K : PySem.W.Frag
  mg : Str → Option Value
  base : Heap
  A : Around
  N : List Str
  s₀ : Shared
  H₀ : Hp
  env : Env
  outer : List Env
  stack : List Env
  ex : List Addr
  fn : Str → Bool
  calm : Bool
  pn : List (Addr × Obj)
  xe : Value → Shared → Prop
/-- the callers' frames -/
def frs (l : List Env) : List Addr := l.filterMap (·.frame)
abbrev Cx.fs (X : Cx) : List Addr := frs X.outer

def Vis (sc : Scope) (x : Str) : Prop := sc.names.lookup x = some .local ∨ sc.names.lookup x = some .cell ∨ sc.names.lookup x = some .free
def Loc (sc : Scope) (x : Str) : Prop := sc.names.lookup x = some .local ∨ sc.names.lookup x = some .cell
def Look (env : Env) (h : Heap) (m : Str → Option Value) (x : Str) (u : Value) : Prop :=
  (env.kindOf x = some .local ∧ m x = some u) ∨ ((env.kindOf x = some .cell ∨ env.kindOf x = some .free) ∧ ∃ c, env.cells.lookup x = some c ∧ h.IsCell c (some u))

structure Cx.Ok (X : Cx) : Prop where
  mod : Mod X.K X.mg X.base
  kind : X.env.scope.kind = .function
  glob : X.env.globals = mainGlobals
  blt : X.env.builtins = builtinsNs
  above : X.s₀.heap.objs.size ≤ X.env.locals
  inj : ∀ x y c, X.env.cells.lookup x = some c → X.env.cells.lookup y = some c → x = y
  has : ∀ x, (X.env.kindOf x = some .cell ∨ X.env.kindOf x = some .free) → ∃ c, X.env.cells.lookup x = some c
  cab : ∀ x c, X.fn x = true → X.env.cells.lookup x = some c → X.s₀.heap.objs.size ≤ c
  hd : X.calm = true → X.A.handled = none
  frames : X.A.frames = some X.stack
  stk : X.stack = X.outer ∨ (X.stack = X.env :: X.outer ∧ X.env.frame = some X.env.locals)
  exf : ∀ b ∈ X.ex, b ≠ X.env.locals ∧ ∀ x c, X.env.cells.lookup x = some c → c ≠ b
  bs : ∀ b o, X.base.get? b = some o → X.s₀.heap.get? b = some o ∧ X.H₀ b = none
  bsz : X.base.objs.size ≤ X.s₀.heap.objs.size
  noex : ∀ b o, X.base.get? b = some o → b ∉ X.ex
  exfs : ∀ b ∈ X.ex, b ∉ X.fs
  funs : X.s₀.heap.FunFrames X.base X.outer
  frf : ∀ b ∈ X.fs, X.H₀ b = none

structure Inv (X : Cx) (pins : List (Addr × Obj)) (σ : List (Option V)) (H : Hp) (s : Shared) : Prop where
  ok : X.Ok
  os : s.os = X.s₀.os
  bare : AllBare s.gens
  base : Un X.fs X.ex X.H₀ H X.s₀.heap s.heap
  loc : ∃ m, s.heap.Ns X.env.locals m ∧ ∀ (i : Nat) (x : Str) (v : V), X.N[i]? = some x → σ[i]? = some (some v) → Vis X.env.scope x → ∃ u, RelV v u ∧ Look X.env s.heap m x u
  cell : ∀ x c, X.env.cells.lookup x = some c → ∃ v, s.heap.IsCell c v
  free : H X.env.locals = none
  freeC : ∀ x c, X.env.cells.lookup x = some c → H c = none
  pin : ∀ p ∈ X.pn ++ pins, s.heap.get? p.1 = some p.2 ∧ H p.1 = none ∧ p.1 ≠ X.env.locals ∧ p.1 ∉ X.fs ∧ ∀ v, p.2.data ≠ .cell v
  hok : HOk X.prog X.w H s.heap
  len : σ.length = X.N.length

section
variable {X : Cx} {pins : List (Addr × Obj)} {σ : List (Option V)} {H H' : Hp} {s : Shared} {h' : Heap}

theorem Cx.Ok.nofr (ok : X.Ok) {b : Addr} {o : Obj} (e : X.base.get? b = some o) : b ∉ X.fs := fun hb => by
  have := (ok.funs.mem hb).1
  rw [e] at this; cases this
theorem Inv.bs (I : Inv X pins σ H s) : ∀ b o, X.base.get? b = some o → s.heap.get? b = some o ∧ H b = none := fun b o e =>
  ⟨I.base.keep b o (I.ok.bs b o e).1 (I.ok.bs b o e).2 (I.ok.nofr e) (I.ok.noex b o e), I.base.free b o (I.ok.bs b o e).1 (I.ok.bs b o e).2 (I.ok.noex b o e)⟩
theorem Inv.bk (I : Inv X pins σ H s) : ∀ b o, X.base.get? b = some o → s.heap.get? b = some o := fun b o e => (I.bs b o e).1
theorem Inv.mod (I : Inv X pins σ H s) : Mod X.K X.mg X.base := I.ok.mod
theorem Inv.kIn (I : Inv X pins σ H s) : X.K.In s.heap := I.ok.mod.kin.keeps I.bk
theorem Inv.nolimit (I : Inv X pins σ H s) : s.heap.NoLimit := I.ok.mod.nolimit.keeps I.bk
/-- the frame over the base: for OpenK's rules (K.In X.base is I.mod.kin) -/
theorem Inv.fr (I : Inv X pins σ H s) : ∃ m, Fr X.base X.env.locals s.heap m :=
  let ⟨m, hn, _⟩ := I.loc
  ⟨m, hn, I.bk, Nat.le_trans I.ok.bsz I.ok.above⟩
theorem Inv.lt (I : Inv X pins σ H s) : X.env.locals < s.heap.objs.size := let ⟨_, hn, _⟩ := I.loc; hn.lt
theorem Inv.sz (I : Inv X pins σ H s) : X.s₀.heap.objs.size ≤ s.heap.objs.size := Nat.le_trans I.ok.above (Nat.le_of_lt I.lt)
theorem Inv.nofs (I : Inv X pins σ H s) {a : Addr} (h : s.heap.objs.size ≤ a) : a ∉ X.fs := fun hb => by
  obtain ⟨_, o, ho, _⟩ := I.ok.funs.mem hb
  exact absurd (Nat.lt_of_lt_of_le (Heap.lt_size ho) (Nat.le_trans I.sz h)) (Nat.lt_irrefl _)
theorem Inv.cne (I : Inv X pins σ H s) : ∀ x c, X.env.cells.lookup x = some c → c ≠ X.env.locals := fun x c e z => by
  obtain ⟨v, o, ho, hd⟩ := I.cell x c e
  obtain ⟨m, ⟨o', es, ep, ho', hd', _⟩, _⟩ := I.loc
  rw [z, ho'] at ho; cases ho; rw [hd'] at hd; cases hd
theorem Inv.funs (I : Inv X pins σ H s) : s.heap.FunFrames X.base X.outer := by
  have all : ∀ (l : List Env), (∀ b ∈ frs l, b ∈ X.fs) → X.s₀.heap.FunFrames X.base l → s.heap.FunFrames X.base l := by
    intro l
    induction l with
    | nil => intro _ _; trivial
    | cons env r ih =>
      intro hs hl
      obtain ⟨hk, ⟨L, o, hf, hn, ho, hd⟩, hr⟩ := hl
      have hL : L ∈ X.fs := hs L (by unfold frs; rw [List.filterMap_cons, hf]; exact List.mem_cons_self)
      obtain ⟨sl, e⟩ := I.base.slot L o ho (I.ok.frf L hL) hL fun z => I.ok.exfs L z hL
      exact ⟨hk, ⟨L, _, hf, hn, e, hd⟩, ih (fun b hb => hs b (by unfold frs; rw [List.filterMap_cons, hf]; exact List.mem_cons_of_mem _ hb)) hr⟩
  exact all X.outer (fun _ hb => hb) I.ok.funs

/-- the frames that run, for a call -/
theorem Inv.stack (I : Inv X pins σ H s) : s.heap.FunFrames X.base X.stack := by
  rcases I.ok.stk with e | ⟨e, hf⟩
  · rw [e]; exact I.funs
  · rw [e]
    obtain ⟨m, hn, _⟩ := I.loc
    refine .cons (by rw [I.ok.kind]; decide) hf hn ?_ I.funs
    exact Heap.get?_none_of_le (Nat.le_trans I.ok.bsz I.ok.above)
theorem Inv.stkSub (I : Inv X pins σ H s) : ∀ b ∈ frs X.stack, b ∈ X.env.locals :: X.fs := fun b hb => by
  rcases I.ok.stk with e | ⟨e, hf⟩
  · rw [e] at hb; exact List.mem_cons_of_mem _ hb
  · rw [e] at hb
    unfold frs at hb
    rw [List.filterMap_cons, hf] at hb
    exact hb
theorem Inv.stkFree (I : Inv X pins σ H s) : ∀ b ∈ frs X.stack, H b = none := fun b hb => by
  rcases List.mem_cons.mp (I.stkSub b hb) with e | hb
  · rw [e]; exact I.free
  · obtain ⟨_, o, ho, _⟩ := I.ok.funs.mem hb
    exact I.base.free b o ho (I.ok.frf b hb) fun z => I.ok.exfs b z hb

/-- THE STEP: the untracked objects but the frame and the records at ch are kept (the callers' frames up to slots), the frame's map is kept, the new abstract heap is held -/
theorem Inv.step {g' : Array GenState} {t' : Nat} {d' : Drawn} {ch : List Addr} (I : Inv X pins σ H s)
    (hch : ∀ b ∈ ch, (b ∈ X.ex ∨ X.s₀.heap.objs.size ≤ b) ∧ b ≠ X.env.locals ∧ (∀ x c, X.env.cells.lookup x = some c → c ≠ b) ∧ ∀ p ∈ X.pn ++ pins, p.1 ≠ b)
    (keep : ∀ b o, b ≠ X.env.locals → b ∉ X.fs → b ∉ ch → s.heap.get? b = some o → H b = none → h'.get? b = some o)
    (slot : ∀ b o, b ≠ X.env.locals → b ∈ X.fs → b ∉ ch → s.heap.get? b = some o → H b = none → ∃ sl, h'.get? b = some { o with slots := sl }) (free : ∀ b o, b ∉ ch → s.heap.get? b = some o → H b = none → H' b = none)
    (there : ∀ b o, b ∉ ch → s.heap.get? b = some o → ∃ o', h'.get? b = some o')
    (tups : ∀ b xs, H b = some (.tup xs) → H' b = some (.tup xs)) (frzs : ∀ b o u, H b = some (.frz o u) → H' b = some (.frz o u)) (tbls : ∀ b ps, H b = some (.tbl ps) → ∃ more, H' b = some (.tbl (ps ++ more)))
    (ns : ∀ m, s.heap.Ns X.env.locals m → h'.Ns X.env.locals m) (hok : HOk X.prog X.w H' h') (hg : AllBare g') :
    Inv X pins σ H' { s with heap := h', gens := g', drawn := d', toks := t' } := by
  have neL : ∀ b o, X.s₀.heap.get? b = some o → b ≠ X.env.locals := fun b o e => Nat.ne_of_lt (Nat.lt_of_lt_of_le (Heap.lt_size e) I.ok.above)
  have neC : ∀ b o, X.s₀.heap.get? b = some o → b ∉ X.ex → b ∉ ch := fun b o e hx hb => by
    rcases (hch b hb).1 with z | z
    · exact hx z
    · exact absurd (Nat.lt_of_lt_of_le (Heap.lt_size e) z) (Nat.lt_irrefl _)
  have cellK : ∀ x c, X.env.cells.lookup x = some c → ∀ v, s.heap.IsCell c v → h'.IsCell c v := fun x c e v ⟨o, ho, hd⟩ => by
    have nch : c ∉ ch := fun z => (hch c z).2.2.1 x c e rfl
    by_cases hc : c ∈ X.fs
    · obtain ⟨sl, q⟩ := slot c o (I.cne x c e) hc nch ho (I.freeC x c e)
      exact ⟨_, q, hd⟩
    · exact ⟨o, keep c o (I.cne x c e) hc nch ho (I.freeC x c e), hd⟩
  refine ⟨I.ok, I.os, hg, ⟨fun b o e n hb hx => ?_, fun b o e n hb hx => ?_, fun b o e n hx => ?_, fun b o e hx => ?_, fun b xs e => tups b xs (I.base.tups b xs e), fun b o xs e => frzs b o xs (I.base.frzs b o xs e), fun b ps e => ?_⟩, ?_, fun x c e => ?_, ?_, fun x c e => ?_, fun p hp => ?_, hok, I.len⟩
  · exact keep b o (neL b o e) hb (neC b o e hx) (I.base.keep b o e n hb hx) (I.base.free b o e n hx)
  · obtain ⟨sl, e1⟩ := I.base.slot b o e n hb hx
    obtain ⟨sl', e2⟩ := slot b _ (neL b o e) hb (neC b o e hx) e1 (I.base.free b o e n hx)
    exact ⟨sl', e2⟩
  · obtain ⟨o', e1⟩ := I.base.there b o e hx
    exact free b o' (neC b o e hx) e1 (I.base.free b o e n hx)
  · obtain ⟨o', e1⟩ := I.base.there b o e hx
    exact there b o' (neC b o e hx) e1
  · obtain ⟨m1, e1⟩ := I.base.tbls b ps e
    obtain ⟨m2, e2⟩ := tbls b _ e1
    exact ⟨m1 ++ m2, by rw [e2, Array.append_assoc]⟩
  · obtain ⟨m, hn, hl⟩ := I.loc
    refine ⟨m, ns m hn, fun i x v e1 e2 e3 => ?_⟩
    obtain ⟨u, r, l⟩ := hl i x v e1 e2 e3
    refine ⟨u, r, ?_⟩
    rcases l with l | ⟨k, c, e, z⟩
    · exact .inl l
    · exact .inr ⟨k, c, e, cellK x c e _ z⟩
  · obtain ⟨v, z⟩ := I.cell x c e
    exact ⟨v, cellK x c e v z⟩
  · obtain ⟨m, ⟨o, _, _, ho, _⟩, _⟩ := I.loc
    exact free _ o (fun z => (hch _ z).2.1 rfl) ho I.free
  · obtain ⟨v, o, ho, hd⟩ := I.cell x c e
    exact free c o (fun z => (hch c z).2.2.1 x c e rfl) ho (I.freeC x c e)
  · obtain ⟨e, n, ne, nf, d⟩ := I.pin p hp
    have nch : p.1 ∉ ch := fun z => (hch p.1 z).2.2.2 p hp rfl
    exact ⟨keep p.1 p.2 ne nf nch e n, free p.1 p.2 nch e n, ne, nf, d⟩
/-- .. where the frame's own object is kept too -/
theorem Inv.un {t' : Nat} (I : Inv X pins σ H s) (u : Un X.fs [] H H' s.heap h') (hok : HOk X.prog X.w H' h') : Inv X pins σ H' { s with heap := h', toks := t' } := by
  obtain ⟨m, ⟨o, es, ep, ho, r⟩, _⟩ := id I.loc
  obtain ⟨sl, hL⟩ := u.any ho I.free (by simp)
  exact I.step (g' := s.gens) (d' := s.drawn) (ch := []) (fun _ z => nomatch z) (fun b o _ hb _ e n => u.keep b o e n hb (by simp)) (fun b o _ hb _ e n => u.slot b o e n hb (by simp)) (fun b o _ e n => u.free b o e n (by simp)) (fun b o _ e => u.there b o e (by simp)) u.tups u.frzs u.tbls (fun m' hm => by
    obtain ⟨o', es', ep', ho', r'⟩ := hm
    rw [ho] at ho'; cases ho'
    exact ⟨_, es', ep', hL, r'⟩) hok I.bare
/-- behind a call (or a comprehension's block): the slots of this frame may have changed too, the records at ch may have turned -/
theorem Inv.call {g' : Array GenState} {t' : Nat} {d' : Drawn} {ch : List Addr} (I : Inv X pins σ H s) (u : Un (frs X.stack) ch H H' s.heap h') (hok : HOk X.prog X.w H' h') (hg : AllBare g')
    (hch : ∀ b ∈ ch, (b ∈ X.ex ∨ X.s₀.heap.objs.size ≤ b) ∧ b ≠ X.env.locals ∧ (∀ x c, X.env.cells.lookup x = some c → c ≠ b) ∧ ∀ p ∈ X.pn ++ pins, p.1 ≠ b) :
    Inv X pins σ H' { s with heap := h', gens := g', drawn := d', toks := t' } := by
  obtain ⟨m, ⟨o, es, ep, ho, r⟩, _⟩ := id I.loc
  obtain ⟨sl, hL⟩ := u.any ho I.free fun z => (hch _ z).2.1 rfl
  exact I.step (ch := ch) hch (fun b o hL hb hc e n => u.keep b o e n (fun z => (List.mem_cons.mp (I.stkSub b z)).elim hL hb) hc) (fun b o _ _ hc e n => u.any e n hc) (fun b o hc e n => u.free b o e n hc) (fun b o hc e => u.there b o e hc) u.tups u.frzs u.tbls (fun m' hm => by
    obtain ⟨o', es', ep', ho', r'⟩ := hm
    rw [ho] at ho'; cases ho'
    exact ⟨_, es', ep', hL, r'⟩) hok hg
/-- an untracked record of ours (an iterator) has turned -/
theorem Inv.turned {t' : Nat} {it : Addr} (I : Inv X pins σ H s) (k : ∀ b o, b ≠ it → s.heap.get? b = some o → h'.get? b = some o) (hn : H it = none) (hL : it ≠ X.env.locals)
    (h1 : it ∈ X.ex ∨ X.s₀.heap.objs.size ≤ it) (h2 : ∀ x c, X.env.cells.lookup x = some c → c ≠ it) (h3 : ∀ p ∈ X.pn ++ pins, p.1 ≠ it) : Inv X pins σ H { s with heap := h', toks := t' } := by
  have nit : ∀ b u, H b = some u → b ≠ it := fun b u e z => by rw [z, hn] at e; cases e
  refine I.step (g' := s.gens) (d' := s.drawn) (ch := [it]) (fun b hb => ?_) (fun b o _ _ hc e _ => k b o (fun z => hc (by simp [z])) e) (fun b o _ _ hc e _ => ⟨o.slots, k b o (fun z => hc (by simp [z])) e⟩) (fun _ _ _ _ n => n)
    (fun b o hc e => ⟨o, k b o (fun z => hc (by simp [z])) e⟩) (fun _ _ e => e) (fun _ _ _ e => e) (fun b ps e => ⟨#[], by rw [e]; simp⟩) (fun m hm => ?_) (fun b u e => ?_) I.bare
  · have e : b = it := by simpa using hb
    subst e
    exact ⟨h1, hL, h2, h3⟩
  · obtain ⟨o, es, ep, ho, r⟩ := hm
    exact ⟨o, es, ep, k _ o (Ne.symm hL) ho, r⟩
  · refine (I.hok b u e).stay (fun c v hc q => k c v ?_ q) (fun _ q => q) fun _ _ q => q
    rcases hc with z | z
    · rw [z]; exact nit b u e
    · exact nit c _ z
theorem Inv.tok (I : Inv X pins σ H s) (t : Nat) : Inv X pins σ H { s with toks := t } := I.un (h' := s.heap) (t' := t) Un.refl I.hok
/-- all objects kept -/
theorem Inv.kept {t' : Nat} (I : Inv X pins σ H s) (k : ∀ b u, s.heap.get? b = some u → h'.get? b = some u) : Inv X pins σ H { s with heap := h', toks := t' } := I.un (Un.kept k) (I.hok.kept k)
/-- a new object laid and tracked -/
theorem Inv.laid {a : Addr} {o : HO} {t' : Nat} (I : Inv X pins σ H s) (k : ∀ b u, s.heap.get? b = some u → h'.get? b = some u) (hp : s.heap.objs.size ≤ a) (new : ObjOk X.prog X.w (upd H a o) h' a o) :
    Inv X pins σ (upd H a o) { s with heap := h', toks := t' } := I.un (Un.laid k hp (I.hok.fresh hp)) (I.hok.laid k hp new)
/-- an object written -/
theorem Inv.write {x e : Addr} {o : HO} {t' : Nat} (I : Inv X pins σ H s) (mu : Mut (H x)) (he : e = x ∨ H e = some (.own x)) (k : ∀ b u, b ≠ e → s.heap.get? b = some u → h'.get? b = some u) (heo : ∃ u, h'.get? e = some u)
    (new : ObjOk X.prog X.w (upd H x o) h' x o) : Inv X pins σ (upd H x o) { s with heap := h', toks := t' } := I.un (Un.write mu he k heo) (I.hok.write mu he k heo new)
/-- forgetting slots, pins -/
theorem Inv.weak {σ' : List (Option V)} (I : Inv X pins σ H s) (hl : σ'.length = σ.length) (w : ∀ (i : Nat) v, σ'[i]? = some (some v) → σ[i]? = some (some v)) : Inv X pins σ' H s :=
  ⟨I.ok, I.os, I.bare, I.base, let ⟨m, hn, hl'⟩ := I.loc; ⟨m, hn, fun i x v e1 e2 e3 => hl' i x v e1 (w i v e2) e3⟩, I.cell, I.free, I.freeC, I.pin, I.hok, hl.trans I.len⟩
theorem Inv.pins_of {pins' : List (Addr × Obj)} (I : Inv X pins σ H s) (h : ∀ p ∈ pins', s.heap.get? p.1 = some p.2 ∧ H p.1 = none ∧ p.1 ≠ X.env.locals ∧ p.1 ∉ X.fs ∧ ∀ v, p.2.data ≠ .cell v) : Inv X pins' σ H s :=
  ⟨I.ok, I.os, I.bare, I.base, I.loc, I.cell, I.free, I.freeC, fun p hp => (List.mem_append.mp hp).elim (fun z => I.pin p (List.mem_append_left _ z)) (h p), I.hok, I.len⟩

theorem nodup_ix {N : List Str} (hN : N.Nodup) {i j : Nat} {x : Str} (a : N[i]? = some x) (b : N[j]? = some x) : i = j := by
  obtain ⟨h1, e1⟩ := List.getElem?_eq_some_iff.mp a
  obtain ⟨h2, e2⟩ := List.getElem?_eq_some_iff.mp b
  exact (List.getElem_inj hN).mp (e1.trans e2.symm)

/-- a name is stored; what changed -/
theorem store_ok2 {M : Model} {A : Around} {E : Value → Shared → Prop} {i : Nat} {x : Str} {v : V} {u : Value} {Q : Unit → Shared → Prop} (I : Inv X pins σ H s) (hN : X.N.Nodup) (hi : X.N[i]? = some x) (hx : Loc X.env.scope x) (r : RelV v u)
    (h : ∀ s', Inv X pins (σ.set i (some v)) H s' → (∃ a, Heap.SameBut a s.heap s'.heap ∧ (a = X.env.locals ∨ X.env.cells.lookup x = some a)) → Q () s') (hf : X.fn x = true ∨ X.env.scope.names.lookup x = some .local := by first | exact .inl rfl | exact .inr rfl | assumption) : wpAny M A (storeName X.env x u) Q E s := by
  obtain ⟨m, hn, hl⟩ := id I.loc
  have hcls : (X.env.scope.kind == .class || (X.env.scope.kind == .module && X.env.locals != X.env.globals)) = false := by rw [I.ok.kind]; rfl
  have hiσ : i < σ.length := by rw [I.len]; exact (List.getElem?_eq_some_iff.mp hi).1
  have cne := I.cne
  have tracked : ∀ {a : Addr} {h' : Heap}, (∃ o, s.heap.get? a = some o ∧ H a = none) → Heap.SameBut a s.heap h' → HOk X.prog X.w H h' := fun {a h'} ha hs b ob e => by
    obtain ⟨_, _, hfree⟩ := ha
    refine (I.hok b ob e).stay (fun c w' hc q => (hs.2 c ?_).trans q) (fun _ q => q) fun _ _ q => q
    rintro rfl
    rcases hc with rfl | hc
    · rw [hfree] at e; cases e
    · rw [hfree] at hc; cases hc
  rcases hx with hk | hk
  · refine wpAny_storeName_local hk hn (fun h' hn' hs => ?_) hcls
    obtain ⟨oL, _, _, hoL, _⟩ := id hn
    refine h _ ⟨I.ok, I.os, I.bare, ⟨fun b o e n hb hx => ?_, fun b o e n hb hx => ?_, I.base.free, fun b o e hx => ?_, I.base.tups, I.base.frzs, I.base.tbls⟩, ⟨_, hn', fun j y v' e1 e2 e3 => ?_⟩, fun y c e => ?_, I.free, I.freeC, fun p hp => ?_, tracked ⟨oL, hoL, I.free⟩ hs, by simpa using I.len⟩ ⟨_, hs, .inl rfl⟩
    · exact (hs.2 b (Nat.ne_of_lt (Nat.lt_of_lt_of_le (Heap.lt_size e) I.ok.above))).trans (I.base.keep b o e n hb hx)
    · obtain ⟨sl, e1⟩ := I.base.slot b o e n hb hx
      exact ⟨sl, (hs.2 b (Nat.ne_of_lt (Nat.lt_of_lt_of_le (Heap.lt_size e) I.ok.above))).trans e1⟩
    · obtain ⟨o', e1⟩ := I.base.there b o e hx
      exact ⟨o', (hs.2 b (Nat.ne_of_lt (Nat.lt_of_lt_of_le (Heap.lt_size e) I.ok.above))).trans e1⟩
    · by_cases hj : j = i
      · subst hj
        rw [hi] at e1; cases e1
        rw [List.getElem?_set_self hiσ] at e2
        cases e2
        exact ⟨u, r, .inl ⟨hk, by simp⟩⟩
      · rw [List.getElem?_set_ne (Ne.symm hj)] at e2
        obtain ⟨u', r', q⟩ := hl j y v' e1 e2 e3
        refine ⟨u', r', ?_⟩
        rcases q with ⟨k, e⟩ | ⟨k, c, e, z⟩
        · refine .inl ⟨k, ?_⟩
          have : y ≠ x := fun e => hj (nodup_ix hN e1 (e ▸ hi))
          simp [this, e]
        · exact .inr ⟨k, c, e, z.sameBut hs (cne y c e)⟩
    · obtain ⟨w', z⟩ := I.cell y c e
      exact ⟨w', z.sameBut hs (cne y c e)⟩
    · obtain ⟨e, n, ne, nf, d⟩ := I.pin p hp
      exact ⟨(hs.2 p.1 ne).trans e, n, ne, nf, d⟩
  · have hfn : X.fn x = true := by
      rcases hf with z | z
      · exact z
      · rw [z] at hk; cases hk
    obtain ⟨c, hc⟩ := I.ok.has x (.inl hk)
    obtain ⟨w', z⟩ := I.cell x c hc
    refine wpAny_storeName_cell I.ok.kind hk hc z (fun h' hc' hs => ?_)
    obtain ⟨oc, hoc, hocd⟩ := id z
    refine h { s with heap := h' } ⟨I.ok, I.os, I.bare, ⟨fun b o e n hb hx => ?_, fun b o e n hb hx => ?_, I.base.free, fun b o e hx => ?_, I.base.tups, I.base.frzs, I.base.tbls⟩, ⟨m, hn.sameBut hs (Ne.symm (cne x c hc)), fun j y v' e1 e2 e3 => ?_⟩, fun y c' e => ?_, I.free, I.freeC, fun p hp => ?_, tracked ⟨oc, hoc, I.freeC x c hc⟩ hs, by simpa using I.len⟩ ⟨c, hs, .inr hc⟩
    · exact (hs.2 b (Nat.ne_of_lt (Nat.lt_of_lt_of_le (Heap.lt_size e) (I.ok.cab x c hfn hc)))).trans (I.base.keep b o e n hb hx)
    · obtain ⟨sl, e1⟩ := I.base.slot b o e n hb hx
      exact ⟨sl, (hs.2 b (Nat.ne_of_lt (Nat.lt_of_lt_of_le (Heap.lt_size e) (I.ok.cab x c hfn hc)))).trans e1⟩
    · obtain ⟨o', e1⟩ := I.base.there b o e hx
      exact ⟨o', (hs.2 b (Nat.ne_of_lt (Nat.lt_of_lt_of_le (Heap.lt_size e) (I.ok.cab x c hfn hc)))).trans e1⟩
    · by_cases hj : j = i
      · subst hj
        rw [hi] at e1; cases e1
        rw [List.getElem?_set_self hiσ] at e2
        cases e2
        exact ⟨u, r, .inr ⟨.inl hk, c, hc, hc'⟩⟩
      · rw [List.getElem?_set_ne (Ne.symm hj)] at e2
        obtain ⟨u', r', q⟩ := hl j y v' e1 e2 e3
        refine ⟨u', r', ?_⟩
        rcases q with q | ⟨k, c', e, z'⟩
        · exact .inl q
        · refine .inr ⟨k, c', e, z'.sameBut hs ?_⟩
          rintro rfl
          exact hj (nodup_ix hN e1 (I.ok.inj _ _ _ e hc ▸ hi))
    · by_cases hcc : c' = c
      · subst hcc; exact ⟨_, hc'⟩
      · obtain ⟨w2, z2⟩ := I.cell y c' e
        exact ⟨w2, z2.sameBut hs hcc⟩
    · obtain ⟨e, n, ne, nf, d⟩ := I.pin p hp
      refine ⟨(hs.2 p.1 ?_).trans e, n, ne, nf, d⟩
      intro q
      rw [q, hoc] at e
      have q' : oc = p.2 := Option.some.inj e
      exact d w' (by rw [← q']; exact hocd)
theorem store_ok {M : Model} {A : Around} {E : Value → Shared → Prop} {i : Nat} {x : Str} {v : V} {u : Value} {Q : Unit → Shared → Prop} (I : Inv X pins σ H s) (hN : X.N.Nodup) (hi : X.N[i]? = some x) (hx : Loc X.env.scope x) (r : RelV v u)
    (h : ∀ s', Inv X pins (σ.set i (some v)) H s' → Q () s') (hf : X.fn x = true ∨ X.env.scope.names.lookup x = some .local := by first | exact .inl rfl | exact .inr rfl | assumption) : wpAny M A (storeName X.env x u) Q E s :=
  store_ok2 I hN hi hx r (fun s' I' _ => h s' I') hf
/-- behind a call or a block, the state as it is -/
theorem Inv.call' {s' : Shared} {ch : List Addr} (I : Inv X pins σ H s) (ho : s'.os = s.os) (u : Un (frs X.stack) ch H H' s.heap s'.heap) (hok : HOk X.prog X.w H' s'.heap) (hg : AllBare s'.gens)
    (hch : ∀ b ∈ ch, (b ∈ X.ex ∨ X.s₀.heap.objs.size ≤ b) ∧ b ≠ X.env.locals ∧ (∀ x c, X.env.cells.lookup x = some c → c ≠ b) ∧ ∀ p ∈ X.pn ++ pins, p.1 ≠ b) : Inv X pins σ H' s' := by
  obtain ⟨h', g', d', t', o'⟩ := s'
  have e : o' = s.os := ho
  subst e
  exact I.call (g' := g') (t' := t') (d' := d') u hok hg hch
end

/-! ### the judgements -/
/-- an exception: its class, its own dict's address (where it has one), the abstract heap behind it -/
abbrev XK := Value → Option Addr → Hp → Prop
abbrev St := List (Option V)
abbrev VK := V → Hp → Prop
/-- an expression's reading; a test's; an argument list's -/
abbrev TE := St → Hp → VK → Prop
abbrev TT := St → Hp → (Bool → Hp → Prop) → Prop
abbrev TA := St → Hp → (List V → Hp → Prop) → Prop
/-- what is wanted behind a statement -/
structure Ends where
  nx : St → Hp → Prop
  rt : VK
  bk : St → Hp → Prop := fun _ _ => False
  ct : St → Hp → Prop := fun _ _ => False
abbrev TS := Ends → St → Hp → Prop

def EP (X : Cx) (pins : List (Addr × Obj)) (σ : St) (Q : VK) (u : Value) (s' : Shared) : Prop := ∃ v H', Inv X pins σ H' s' ∧ RelV v u ∧ Q v H'
def TP (X : Cx) (pins : List (Addr × Obj)) (σ : St) (Q : Bool → Hp → Prop) (b : Bool) (s' : Shared) : Prop := ∃ H', Inv X pins σ H' s' ∧ Q b H'
def AP (X : Cx) (pins : List (Addr × Obj)) (σ : St) (Q : List V → Hp → Prop) (us : List Value) (s' : Shared) : Prop := ∃ vs H', Inv X pins σ H' s' ∧ Vals vs us ∧ Q vs H'
def SP (X : Cx) (pins : List (Addr × Obj)) (D : Ends) (f : Flow) (s' : Shared) : Prop :=
  match f with
  | .next => ∃ σ' H', Inv X pins σ' H' s' ∧ D.nx σ' H'
  | .brk => ∃ σ' H', Inv X pins σ' H' s' ∧ D.bk σ' H'
  | .cont => ∃ σ' H', Inv X pins σ' H' s' ∧ D.ct σ' H'
  | .ret u => ∃ v σ' H', Inv X pins σ' H' s' ∧ RelV v u ∧ D.rt v H'

def PE (X : Cx) (e : Expr) (t : TE) : Prop :=
  ∀ (pins : List (Addr × Obj)) (s : Shared) (σ : St) (H : Hp) (Q : VK), Inv X pins σ H s → t σ H Q → wpAny (model X.prog X.w) X.A (eval e X.env) (EP X pins σ Q) X.xe s
def PT (X : Cx) (e : Expr) (t : TT) : Prop :=
  ∀ (pins : List (Addr × Obj)) (s : Shared) (σ : St) (H : Hp) (Q : Bool → Hp → Prop), Inv X pins σ H s → t σ H Q → wpAny (model X.prog X.w) X.A (isTrue e X.env (eval e X.env)) (TP X pins σ Q) X.xe s
/-- a test whatever its 'whole' is (and, or) -/
def PW (X : Cx) (e : Expr) (t : TT) : Prop :=
  ∀ (whole : Sem Value) (pins : List (Addr × Obj)) (s : Shared) (σ : St) (H : Hp) (Q : Bool → Hp → Prop), Inv X pins σ H s → t σ H Q → wpAny (model X.prog X.w) X.A (isTrue e X.env whole) (TP X pins σ Q) X.xe s
theorem PW.pt {X : Cx} {e : Expr} {t : TT} (h : PW X e t) : PT X e t := h _
/-- an argument list (no star), from the left -/
def PA (X : Cx) (es : List Expr) (t : TA) : Prop :=
  ∀ (pos : Pos) (pins : List (Addr × Obj)) (s : Shared) (σ : St) (H : Hp) (Q : List V → Hp → Prop), Inv X pins σ H s → t σ H Q → wpAny (model X.prog X.w) X.A (spliced (backTo pos (starEach es X.env))) (AP X pins σ Q) X.xe s
def PS (X : Cx) (st : Stmt) (t : TS) : Prop :=
  ∀ (pins : List (Addr × Obj)) (s : Shared) (σ : St) (H : Hp) (D : Ends), Inv X pins σ H s → t D σ H → wpAny (model X.prog X.w) X.A (exec st X.env) (SP X pins D) X.xe s
def PSs (X : Cx) (st : List Stmt) (t : TS) : Prop :=
  ∀ (pins : List (Addr × Obj)) (s : Shared) (σ : St) (H : Hp) (D : Ends), Inv X pins σ H s → t D σ H → wpAny (model X.prog X.w) X.A (execs st X.env) (SP X pins D) X.xe s
/-- weaken the end -/
theorem thn {α : Type} {t : Sem α} {Q Q' : α → Shared → Prop} {M : Model} {A : Around} {E : Value → Shared → Prop} {s : Shared} (h : wpAny M A t Q E s) (hQ : ∀ a s, Q a s → Q' a s) : wpAny M A t Q' E s := wpAny_mono h hQ fun _ _ x => x
end L2

namespace L2
open PySem PySem.Spec PyProof.Rows
section
variable {X : Cx}

/-- two expressions in a row -/
theorem bin {a b : Expr} {ta tb : TE} (ha : PE X a ta) (hb : PE X b tb) {pins : List (Addr × Obj)} {s : Shared} {σ : St} {H : Hp} {R : V → V → Hp → Prop} (I : Inv X pins σ H s) (h : ta σ H fun x H1 => tb σ H1 fun y H2 => R x y H2)
    {α : Type} {Q : α → Shared → Prop} {f : Value → Value → Sem α}
    (hf : ∀ v u s2 x y H2, Inv X pins σ H2 s2 → RelV x v → RelV y u → R x y H2 → wpAny (model X.prog X.w) X.A (f v u) Q X.xe s2) :
    wpAny (model X.prog X.w) X.A (eval a X.env) (fun v s₁ => wpAny (model X.prog X.w) X.A (eval b X.env) (fun u s₂ => wpAny (model X.prog X.w) X.A (f v u) Q X.xe s₂) X.xe s₁) X.xe s := by
  refine thn (ha pins s σ H _ I h) fun v s1 ⟨x, H1, I1, r1, q1⟩ => ?_
  refine thn (hb pins s1 σ H1 _ I1 q1) fun u s2 ⟨y, H2, I2, r2, q2⟩ => ?_
  exact hf v u s2 x y H2 I2 r1 r2 q2

/-! ### names and constants -/
def tVar (i : Nat) : TE := fun σ H Q => ∃ v, σ[i]? = some (some v) ∧ Q v H
def tC (v : V) : TE := fun _ H Q => Q v H
theorem pe_var {i : Nat} {x : Str} {pos : Pos} (hN : X.N[i]? = some x) (hv : Vis X.env.scope x) (hd : (x == ("__debug__" : Str)) = false := by decide) (hcd : (x == ("__classdict__" : Str)) = false := by decide) : PE X (.Name x pos) (tVar i) := by
  intro pins s σ H Q I h
  obtain ⟨v, e, h⟩ := h
  obtain ⟨m, hn, hl⟩ := I.loc
  obtain ⟨u, r, l⟩ := hl i x v hN e hv
  have fin : EP X pins σ Q u s := ⟨v, H, I, r, h⟩
  rcases l with ⟨hk, hm⟩ | ⟨hk, c, hc, hcell⟩
  · exact wpAny_Name (wpAny_loadName_local I.ok.kind hk hn hm fin) hd
  · rcases hk with hk | hk
    · exact wpAny_Name (wpAny_loadName_cell I.ok.kind hk hc hcell fin) hd
    · exact wpAny_Name (wpAny_loadName_free I.ok.kind hk hc hcell fin hcd) hd
theorem pe_int {i j pos} : PE X (.Constant (.int i) j pos) (tC (.int i)) := fun _ _ _ H _ I h => wpAny_Constant_int ⟨.int i, H, I.tok _, ⟨_, rfl⟩, h⟩
theorem pe_bl {b j pos} : PE X (.Constant (.bool b) j pos) (tC (.bl b)) := fun _ _ _ H _ I h => Constant_bool ⟨.bl b, H, I, rfl, h⟩
theorem pe_non {j pos} : PE X (.Constant .none j pos) (tC .non) := fun _ _ _ H _ I h => Constant_none ⟨.non, H, I, rfl, h⟩
theorem pe_str {x j pos} : PE X (.Constant (.str x) j pos) (tC (.str x)) := fun _ _ _ H _ I h => Calls.Constant_str ⟨.str x, H, I.tok _, ⟨_, rfl⟩, h⟩

/-- a global name of the def -/
def Gl (X : Cx) (x : Str) : Prop := X.env.kindOf x = some .globalImplicit
theorem ld_glob {E : Value → Shared → Prop} {pins : List (Addr × Obj)} {s : Shared} {σ : St} {H : Hp} {x : Str} {u : Value} {pos : Pos} {Q : Value → Shared → Prop} (I : Inv X pins σ H s) (hg : Gl X x) (hm : X.mg x = some u) (h : Q u s)
    (hd : (x == ("__debug__" : Str)) = false := by decide) : wpAny (model X.prog X.w) X.A (eval (.Name x pos) X.env) Q E s :=
  Calls.Name_function_global I.ok.kind hg (Calls.loadGlobal_global (by rw [I.ok.glob]; exact I.mod.glob.keeps I.bk) hm h) hd
theorem ld_blt {E : Value → Shared → Prop} {pins : List (Addr × Obj)} {s : Shared} {σ : St} {H : Hp} {x : Str} {u : Value} {pos : Pos} {Q : Value → Shared → Prop} (I : Inv X pins σ H s) (hg : Gl X x) (hm : X.mg x = none) (hv : bootBuiltins x = some u) (h : Q u s)
    (hn : x ≠ "__name__" := by decide) (hd : (x == ("__debug__" : Str)) = false := by decide) : wpAny (model X.prog X.w) X.A (eval (.Name x pos) X.env) Q E s := by
  obtain ⟨mb, h1, h2⟩ := I.mod.blt
  exact Calls.Name_function_global I.ok.kind hg (Calls.loadGlobal_builtin (by rw [I.ok.glob]; exact I.mod.glob.keeps I.bk) hm (by rw [I.ok.blt]; exact h1.keeps I.bk) ((h2 x hn).trans hv) h) hd
/-- a module's constant, a class, a function, as a value -/
theorem pe_glob {x : Str} {v : V} {u : Value} {pos : Pos} (hg : Gl X x) (hm : X.mg x = some u) (r : RelV v u) (hd : (x == ("__debug__" : Str)) = false := by decide) : PE X (.Name x pos) (tC v) :=
  fun _ _ _ H _ I h => ld_glob I hg hm ⟨v, H, I, r, h⟩ hd
theorem pe_bltn {x : Str} {v : V} {u : Value} {pos : Pos} (hg : Gl X x) (hm : X.mg x = none) (hv : bootBuiltins x = some u) (r : RelV v u) (hn : x ≠ "__name__" := by decide) (hd : (x == ("__debug__" : Str)) = false := by decide) : PE X (.Name x pos) (tC v) :=
  fun _ _ _ H _ I h => ld_blt I hg hm hv ⟨v, H, I, r, h⟩ hn hd

/-! ### arithmetic -/
/-- two ints -/
def t2I (ta tb : TE) (k : Int → Int → Hp → Prop) : St → Hp → Prop := fun σ H => ta σ H fun x H1 => tb σ H1 fun y H2 => ∃ i j, x = .int i ∧ y = .int j ∧ k i j H2
def tAdd (ta tb : TE) : TE := fun σ H Q => t2I ta tb (fun i j H2 => Q (.int (i + j)) H2) σ H
def tSub (ta tb : TE) : TE := fun σ H Q => t2I ta tb (fun i j H2 => Q (.int (i - j)) H2) σ H
/-- the left factor below 2^64 -/
def tMul (ta tb : TE) : TE := fun σ H Q => t2I ta tb (fun i j H2 => (-(2 ^ 64) < i ∧ i < 2 ^ 64) ∧ Q (.int (i * j)) H2) σ H
variable {a b : Expr} {ta tb : TE} {pos : Pos}
theorem pe_add (ha : PE X a ta) (hb : PE X b tb) : PE X (.BinOp a .Add b pos) (tAdd ta tb) := by
  intro pins s σ H Q I h
  refine wpAny_BinOp (bin ha hb I h fun v u s2 x y H2 I2 rx ry q => ?_)
  obtain ⟨i, j, rfl, rfl, q⟩ := q
  obtain ⟨t, rfl⟩ := rx
  obtain ⟨t', rfl⟩ := ry
  exact add_int ⟨.int _, H2, I2.tok _, ⟨_, rfl⟩, q⟩
theorem pe_sub (ha : PE X a ta) (hb : PE X b tb) : PE X (.BinOp a .Sub b pos) (tSub ta tb) := by
  intro pins s σ H Q I h
  refine wpAny_BinOp (bin ha hb I h fun v u s2 x y H2 I2 rx ry q => ?_)
  obtain ⟨i, j, rfl, rfl, q⟩ := q
  obtain ⟨t, rfl⟩ := rx
  obtain ⟨t', rfl⟩ := ry
  exact sub_int ⟨.int _, H2, I2.tok _, ⟨_, rfl⟩, q⟩
theorem pe_mul (ha : PE X a ta) (hb : PE X b tb) : PE X (.BinOp a .Mult b pos) (tMul ta tb) := by
  intro pins s σ H Q I h
  refine wpAny_BinOp (bin ha hb I h fun v u s2 x y H2 I2 rx ry q => ?_)
  obtain ⟨i, j, rfl, rfl, ⟨q1, q2⟩, q⟩ := q
  obtain ⟨t, rfl⟩ := rx
  obtain ⟨t', rfl⟩ := ry
  exact mul_int ⟨.int _, H2, I2.tok _, ⟨_, rfl⟩, q⟩ (.of_left (intBits_le_64 q1 q2))

/-! ### comparisons -/
def PC (X : Cx) (op : CmpOp) (a b : Expr) (t : TE) : Prop :=
  ∀ (pins : List (Addr × Obj)) (s : Shared) (σ : St) (H : Hp) (Q : VK), Inv X pins σ H s → t σ H Q →
    wpAny (model X.prog X.w) X.A (eval a X.env) (fun v s₁ => wpAny (model X.prog X.w) X.A (eval b X.env) (fun u s₂ => wpAny (model X.prog X.w) X.A (compareOp op v u) (EP X pins σ Q) X.xe s₂) X.xe s₁) X.xe s
theorem nobehind (b : Expr) {op : CmpOp} (h : op ≠ .In) (h2 : op ≠ .NotIn) : behindInMarks op b = false := by
  have e1 : (op == CmpOp.In) = false := by cases op <;> first | rfl | exact absurd rfl h
  have e2 : (op == CmpOp.NotIn) = false := by cases op <;> first | rfl | exact absurd rfl h2
  cases b <;> simp [behindInMarks, e1, e2]
def tCmp (p : Int → Int → Bool) (ta tb : TE) : TE := fun σ H Q => t2I ta tb (fun i j H2 => Q (.bl (p i j)) H2) σ H
abbrev tLt : TE → TE → TE := tCmp fun i j => decide (i < j)
abbrev tLe : TE → TE → TE := tCmp fun i j => decide (i ≤ j)
abbrev tGt : TE → TE → TE := tCmp fun i j => decide (j < i)
abbrev tGe : TE → TE → TE := tCmp fun i j => decide (j ≤ i)
abbrev tEqI : TE → TE → TE := tCmp fun i j => decide (i = j)
abbrev tNeI : TE → TE → TE := tCmp fun i j => !decide (i = j)
/-- a comparison of two ints, by its rule -/
theorem pc_int {op : CmpOp} {p : Int → Int → Bool} (ha : PE X a ta) (hb : PE X b tb)
    (rule : ∀ (i j : Int) (t u : Tok) (Q : Value → Shared → Prop) (s : Shared), Q (.bool (p i j)) s → wpAny (model X.prog X.w) X.A (compareOp op (.int i t) (.int j u)) Q X.xe s) : PC X op a b (tCmp p ta tb) := by
  intro pins s σ H Q I h
  refine bin ha hb I h fun v u s2 x y H2 I2 rx ry q => ?_
  obtain ⟨i, j, rfl, rfl, q⟩ := q
  obtain ⟨t, rfl⟩ := rx
  obtain ⟨t', rfl⟩ := ry
  exact rule i j t t' _ s2 ⟨.bl _, H2, I2, rfl, q⟩
theorem pc_lt (ha : PE X a ta) (hb : PE X b tb) : PC X .Lt a b (tLt ta tb) := pc_int ha hb fun _ _ _ _ _ _ h => lt_int h
theorem pc_le (ha : PE X a ta) (hb : PE X b tb) : PC X .LtE a b (tLe ta tb) := pc_int ha hb fun _ _ _ _ _ _ h => le_int h
theorem pc_gt (ha : PE X a ta) (hb : PE X b tb) : PC X .Gt a b (tGt ta tb) := pc_int ha hb fun _ _ _ _ _ _ h => gt_int h
theorem pc_ge (ha : PE X a ta) (hb : PE X b tb) : PC X .GtE a b (tGe ta tb) := pc_int ha hb fun _ _ _ _ _ _ h => ge_int h
theorem pc_eqI (ha : PE X a ta) (hb : PE X b tb) : PC X .Eq a b (tEqI ta tb) := pc_int ha hb fun _ _ _ _ _ _ h => eq_int (by rw [Bool.beq_eq_decide_eq]; exact h)
theorem pc_neI (ha : PE X a ta) (hb : PE X b tb) : PC X .NotEq a b (tNeI ta tb) := pc_int ha hb fun _ _ _ _ _ _ h => ne_int (by rw [bne, Bool.beq_eq_decide_eq]; exact h)
/-- is None -/
def tIsN (ta : TE) : TE := fun σ H Q => ta σ H fun x H1 => Q (.bl (decide (x = .non))) H1
def tNotN (ta : TE) : TE := fun σ H Q => ta σ H fun x H1 => Q (.bl (!decide (x = .non))) H1
theorem RelV.none_iff {x : V} {v : Value} (r : RelV x v) : (v == Value.none) = decide (x = .non) := by
  cases x with
  | non => cases r; rfl
  | bl _ => cases r; rfl
  | int _ => obtain ⟨t, rfl⟩ := r; rfl
  | str _ => obtain ⟨t, rfl⟩ := r; rfl
  | byt _ => obtain ⟨t, rfl⟩ := r; rfl
  | flt _ => obtain ⟨t, rfl⟩ := r; rfl
  | ref _ => cases r; rfl
  | ty _ => cases r; rfl
theorem pc_isN {j pos'} (ha : PE X a ta) : PC X .Is a (.Constant .none j pos') (tIsN ta) := by
  intro pins s σ H Q I h
  refine thn (ha pins s σ H _ I h) fun v s1 ⟨x, H1, I1, r1, q1⟩ => ?_
  exact Constant_none (is_none_gen ⟨.bl _, H1, I1, by rw [r1.none_iff]; rfl, q1⟩)
theorem pc_notN {j pos'} (ha : PE X a ta) : PC X .IsNot a (.Constant .none j pos') (tNotN ta) := by
  intro pins s σ H Q I h
  refine thn (ha pins s σ H _ I h) fun v s1 ⟨x, H1, I1, r1, q1⟩ => ?_
  exact Constant_none (isnot_none_gen ⟨.bl _, H1, I1, by rw [r1.none_iff]; rfl, q1⟩)
/-- a comparison as a value, as a test -/
def tB (t : TE) : TT := fun σ H Q => t σ H fun x H1 => ∃ c, x = .bl c ∧ Q c H1
theorem pe_cmp {op : CmpOp} {t : TE} (h : PC X op a b t) (h1 : behindInMarks op b = false := by first | exact nobehind _ (by decide) (by decide) | rfl) : PE X (.Compare a [op] [b] pos) t := fun pins s σ H Q I hw => wpAny_Compare1 (h pins s σ H Q I hw) h1
theorem pt_cmp {op : CmpOp} {t : TE} (h : PC X op a b t) (h1 : behindInMarks op b = false := by first | exact nobehind _ (by decide) (by decide) | rfl) : PT X (.Compare a [op] [b] pos) (tB t) := by
  intro pins s σ H Q I hw
  refine wpAny_isTrue_Compare1 (thn (h pins s σ H _ I hw) fun v s1 h1 => thn h1 fun u s2 h2 => thn h2 fun c s3 ⟨x, H1, I1, r1, q1⟩ => ?_) h1
  obtain ⟨d, rfl, q⟩ := q1
  cases r1
  exact wpAny_truthy_bool ⟨H1, I1, q⟩
/-- an expression whose value is a bool, as a test -/
theorem pt_val {e : Expr} {t : TE} (h : PE X e t) (he : ∀ whole, isTrue e X.env whole = (do let v ← whole; standAt e.pos; holding [v] (truthy v)) := by intro _; rfl) : PT X e (tB t) := by
  intro pins s σ H Q I hw
  refine isTrue_plain (thn (h pins s σ H _ I hw) fun v s1 ⟨x, H1, I1, r1, q1⟩ => ?_) (he _)
  obtain ⟨d, rfl, q⟩ := q1
  cases r1
  exact wpAny_truthy_bool ⟨H1, I1, q⟩

/-! ### and, or, not -/
variable {tA tB' : TT} {rest : List Expr}
def tAnd (t u : TT) : TT := fun σ H Q => t σ H fun c H1 => if c = true then u σ H1 Q else Q false H1
def tOr (t u : TT) : TT := fun σ H Q => t σ H fun c H1 => if c = true then Q true H1 else u σ H1 Q
def tNot (t : TT) : TT := fun σ H Q => t σ H fun c H1 => Q (!c) H1
theorem pw_and1 (ha : PT X a tA) : PW X (.BoolOp .And [a] pos) tA := by
  intro wh pins s σ H Q I h
  refine isTrue_and (thn (ha pins s σ H Q I h) fun c s1 e => ?_)
  cases c with
  | true => exact isTrue_and_nil e
  | false => exact e
theorem pw_or1 (ha : PT X a tA) : PW X (.BoolOp .Or [a] pos) tA := by
  intro wh pins s σ H Q I h
  refine isTrue_or (thn (ha pins s σ H Q I h) fun c s1 e => ?_)
  cases c with
  | false => exact isTrue_or_nil e
  | true => exact e
theorem pw_and (ha : PT X a tA) (hb : PW X (.BoolOp .And (b :: rest) pos) tB') : PW X (.BoolOp .And (a :: b :: rest) pos) (tAnd tA tB') := by
  intro wh pins s σ H Q I h
  refine isTrue_and (thn (ha pins s σ H _ I h) fun c s1 ⟨H1, I1, q1⟩ => ?_)
  cases c with
  | true => exact hb wh pins s1 σ H1 Q I1 q1
  | false => exact ⟨H1, I1, q1⟩
theorem pw_or (ha : PT X a tA) (hb : PW X (.BoolOp .Or (b :: rest) pos) tB') : PW X (.BoolOp .Or (a :: b :: rest) pos) (tOr tA tB') := by
  intro wh pins s σ H Q I h
  refine isTrue_or (thn (ha pins s σ H _ I h) fun c s1 ⟨H1, I1, q1⟩ => ?_)
  cases c with
  | true => exact ⟨H1, I1, q1⟩
  | false => exact hb wh pins s1 σ H1 Q I1 q1
theorem pt_not (ha : PT X a tA) : PT X (.UnaryOp .Not a pos) (tNot tA) := by
  intro pins s σ H Q I h
  exact isTrue_not (ha pins s σ H (fun c H1 => Q (!c) H1) I h)
/-- .. as values (bools) -/
def tAndV (ta tb : TE) : TE := fun σ H Q => ta σ H fun x H1 => ∃ c, x = .bl c ∧ if c = true then tb σ H1 Q else Q (.bl false) H1
def tOrV (ta tb : TE) : TE := fun σ H Q => ta σ H fun x H1 => ∃ c, x = .bl c ∧ if c = true then Q (.bl true) H1 else tb σ H1 Q
def tNotV (ta : TE) : TE := fun σ H Q => ta σ H fun x H1 => ∃ c, x = .bl c ∧ Q (.bl (!c)) H1
theorem pe_one {op} {t : TE} (h : PE X a t) : PE X (.BoolOp op [a] pos) t := fun pins s σ H Q I hw => BoolOp_one (h pins s σ H Q I hw)
theorem pe_and (ha : PE X a ta) (hb : PE X (.BoolOp .And (b :: rest) pos) tb) : PE X (.BoolOp .And (a :: b :: rest) pos) (tAndV ta tb) := by
  intro pins s σ H Q I h
  refine BoolOp_and (thn (ha pins s σ H _ I h) fun v s1 ⟨x, H1, I1, r1, q1⟩ => ?_)
  obtain ⟨c, rfl, q1⟩ := q1
  cases r1
  refine wpAny_truthy_bool ?_
  cases c with
  | true => exact hb pins s1 σ H1 Q I1 q1
  | false => exact ⟨.bl false, H1, I1, rfl, q1⟩
theorem pe_or (ha : PE X a ta) (hb : PE X (.BoolOp .Or (b :: rest) pos) tb) : PE X (.BoolOp .Or (a :: b :: rest) pos) (tOrV ta tb) := by
  intro pins s σ H Q I h
  refine BoolOp_or (thn (ha pins s σ H _ I h) fun v s1 ⟨x, H1, I1, r1, q1⟩ => ?_)
  obtain ⟨c, rfl, q1⟩ := q1
  cases r1
  refine wpAny_truthy_bool ?_
  cases c with
  | false => exact hb pins s1 σ H1 Q I1 q1
  | true => exact ⟨.bl true, H1, I1, rfl, q1⟩
theorem pe_not (ha : PE X a ta) : PE X (.UnaryOp .Not a pos) (tNotV ta) := by
  intro pins s σ H Q I h
  refine UnaryOp_ (thn (ha pins s σ H _ I h) fun v s1 ⟨x, H1, I1, r1, q1⟩ => ?_)
  obtain ⟨c, rfl, q1⟩ := q1
  cases r1
  exact not_of (wpAny_truthy_bool ⟨.bl (!c), H1, I1, rfl, q1⟩)
/-- a if t else b -/
def tIf (t : TT) (ta tb : TE) : TE := fun σ H Q => t σ H fun c H1 => if c = true then ta σ H1 Q else tb σ H1 Q
theorem pe_ifExp {c : Expr} (hc : PT X c tA) (ha : PE X a ta) (hb : PE X b tb) : PE X (.IfExp c a b pos) (tIf tA ta tb) := by
  intro pins s σ H Q I h
  refine wpAny_IfExp (thn (hc pins s σ H _ I h) fun d s1 ⟨H1, I1, q1⟩ => ?_)
  cases d with
  | true => exact ha pins s1 σ H1 Q I1 q1
  | false => exact hb pins s1 σ H1 Q I1 q1
end
end L2

namespace L2
open PySem PySem.Spec PyProof.Rows

/-! ### a list, a tuple that is read: tracked, frozen, or an object of the module -/
def SqL (K : PySem.W.Frag) (H : Hp) (a : Addr) (xs : List V) : Prop :=
  Rd H a (.lst xs) ∨
    ∃ (o : Obj) (its : Array Value) (n : Nat), K.lookup a = some o ∧ o.cls = .type "list" ∧ o.dict = none ∧ o.data = .seq its n ∧ its.size ≤ sizeLine ∧ Vals xs its.toList
def SqT (K : PySem.W.Frag) (H : Hp) (a : Addr) (xs : List V) : Prop :=
  Rd H a (.tup xs) ∨
    ∃ (o : Obj) (its : Array Value) (n : Nat), K.lookup a = some o ∧ o.cls = .type "tuple" ∧ o.data = .seq its n ∧ its.size ≤ sizeLine ∧ Vals xs its.toList
def absV : Value → Option V
  | .none => some .non
  | .bool b => some (.bl b)
  | .int i _ => some (.int i)
  | .str x _ => some (.str x)
  | .bytes b _ => some (.byt b)
  | .float b _ => some (.flt b)
  | .ref a => some (.ref a)
  | .type n => some (.ty n)
  | _ => none
theorem RelV.abs {x : V} {u : Value} (r : RelV x u) : absV u = some x := by
  cases x with
  | non => cases r; rfl
  | bl _ => cases r; rfl
  | int _ => obtain ⟨t, rfl⟩ := r; rfl
  | str _ => obtain ⟨t, rfl⟩ := r; rfl
  | byt _ => obtain ⟨t, rfl⟩ := r; rfl
  | flt _ => obtain ⟨t, rfl⟩ := r; rfl
  | ref _ => cases r; rfl
  | ty _ => cases r; rfl
theorem RelV.inj {x y : V} {u : Value} (r : RelV x u) (q : RelV y u) : x = y := Option.some.inj (r.abs.symm.trans q.abs)
theorem Vals.inj : ∀ {xs ys : List V} {us : List Value}, Vals xs us → Vals ys us → xs = ys
  | _, _, _, .nil, .nil => rfl
  | _, _, _, .cons r t, .cons r' t' => by rw [r.inj r', Vals.inj t t']
section
variable {X : Cx} {pins : List (Addr × Obj)} {σ : St} {H : Hp} {s : Shared} {a : Addr} {xs ys : List V}
theorem SqL.of {K : PySem.W.Frag} (h : H a = some (.lst xs)) : SqL K H a xs := .inl (.inl h)
theorem SqT.of {K : PySem.W.Frag} (h : H a = some (.tup xs)) : SqT K H a xs := .inl (.inl h)
theorem Inv.list (I : Inv X pins σ H s) (h : SqL X.K H a xs) : ∃ its : List Value, Vals xs its ∧ PlainL s.heap a its.toArray ∧ xs.length ≤ sizeLine := by
  rcases h with h | ⟨o, its, n, hk, hc, hd, hs, hz, r⟩
  · obtain ⟨z, its, n, r, e⟩ := h.ok I.hok
    exact ⟨its, r, ⟨_, n, e, rfl, rfl, rfl⟩, z⟩
  · refine ⟨its.toList, r, ⟨o, n, I.kIn a o hk, hc, hd, by simpa using hs⟩, ?_⟩
    have e := r.length
    simp only [Array.length_toList] at e
    omega
theorem Inv.tuple (I : Inv X pins σ H s) (h : SqT X.K H a xs) : ∃ its : List Value, Vals xs its ∧ IsTup s.heap a its.toArray ∧ xs.length ≤ sizeLine := by
  rcases h with h | ⟨o, its, n, hk, hc, hs, hz, r⟩
  · obtain ⟨z, its, r, p⟩ := h.ok I.hok
    exact ⟨its, r, p, z⟩
  · refine ⟨its.toList, r, ⟨o, I.kIn a o hk, hc, n, by simpa using hs⟩, ?_⟩
    have e := r.length
    simp only [Array.length_toList] at e
    omega
theorem Inv.list_inj (I : Inv X pins σ H s) (h : SqL X.K H a xs) (h' : SqL X.K H a ys) : xs = ys := by
  obtain ⟨its, r, ⟨o, n, e, _, _, d⟩, _⟩ := I.list h
  obtain ⟨its', r', ⟨o', n', e', _, _, d'⟩, _⟩ := I.list h'
  rw [e] at e'; cases e'
  rw [d] at d'
  injection d' with d1 _
  have : its = its' := by simpa using congrArg Array.toList d1
  subst this
  exact r.inj r'
theorem Inv.tuple_inj (I : Inv X pins σ H s) (h : SqT X.K H a xs) (h' : SqT X.K H a ys) : xs = ys := by
  obtain ⟨its, r, ⟨o, e, _, n, d⟩, _⟩ := I.tuple h
  obtain ⟨its', r', ⟨o', e', _, n', d'⟩, _⟩ := I.tuple h'
  rw [e] at e'; cases e'
  rw [d] at d'
  injection d' with d1 _
  have : its = its' := by simpa using congrArg Array.toList d1
  subst this
  exact r.inj r'
end

/-! ### another wish about exceptions -/
abbrev Cx.wish (X : Cx) (E : Value → Shared → Prop) : Cx := { X with xe := E }
/-- no exception leaves -/
abbrev Cx.nox (X : Cx) : Cx := X.wish fun _ _ => False
theorem Cx.Ok.wish {X : Cx} (ok : X.Ok) (E : Value → Shared → Prop) : (X.wish E).Ok :=
  ⟨ok.mod, ok.kind, ok.glob, ok.blt, ok.above, ok.inj, ok.has, ok.cab, ok.hd, ok.frames, ok.stk, ok.exf, ok.bs, ok.bsz, ok.noex, ok.exfs, ok.funs, ok.frf⟩
theorem Cx.Ok.unwish {X : Cx} {E : Value → Shared → Prop} (ok : (X.wish E).Ok) : X.Ok :=
  ⟨ok.mod, ok.kind, ok.glob, ok.blt, ok.above, ok.inj, ok.has, ok.cab, ok.hd, ok.frames, ok.stk, ok.exf, ok.bs, ok.bsz, ok.noex, ok.exfs, ok.funs, ok.frf⟩
section
variable {X : Cx} {pins : List (Addr × Obj)} {σ : St} {H : Hp} {s : Shared} {E : Value → Shared → Prop}
theorem Inv.wish (I : Inv X pins σ H s) (E : Value → Shared → Prop) : Inv (X.wish E) pins σ H s := ⟨I.ok.wish E, I.os, I.bare, I.base, I.loc, I.cell, I.free, I.freeC, I.pin, I.hok, I.len⟩
theorem Inv.unwish (I : Inv (X.wish E) pins σ H s) : Inv X pins σ H s := ⟨I.ok.unwish, I.os, I.bare, I.base, I.loc, I.cell, I.free, I.freeC, I.pin, I.hok, I.len⟩
theorem SP.unwish {D : Ends} {f : Flow} {s' : Shared} (h : SP (X.wish E) pins D f s') : SP X pins D f s' := by
  cases f with
  | next => obtain ⟨σ', H', I, q⟩ := h; exact ⟨σ', H', I.unwish, q⟩
  | brk => obtain ⟨σ', H', I, q⟩ := h; exact ⟨σ', H', I.unwish, q⟩
  | cont => obtain ⟨σ', H', I, q⟩ := h; exact ⟨σ', H', I.unwish, q⟩
  | ret u => obtain ⟨v, σ', H', I, r, q⟩ := h; exact ⟨v, σ', H', I.unwish, r, q⟩
theorem PE.nox {e : Expr} {t : TE} (h : PE X.nox e t) : PE X e t := fun pins s σ H Q I hw =>
  wpAny_mono (h pins s σ H Q (I.wish _) hw) (fun _ _ ⟨v, H', I', r, q⟩ => ⟨v, H', I'.unwish, r, q⟩) fun _ _ z => False.elim z
theorem PT.nox {e : Expr} {t : TT} (h : PT X.nox e t) : PT X e t := fun pins s σ H Q I hw =>
  wpAny_mono (h pins s σ H Q (I.wish _) hw) (fun _ _ ⟨H', I', q⟩ => ⟨H', I'.unwish, q⟩) fun _ _ z => False.elim z
theorem PSs.nox {st : List Stmt} {t : TS} (h : PSs X.nox st t) : PSs X st t := fun pins s σ H D I hw =>
  wpAny_mono (h pins s σ H D (I.wish _) hw) (fun _ _ q => q.unwish) fun _ _ z => False.elim z
end

/-! ### blocks and small statements -/
section
variable {X : Cx} {st : Stmt} {rest : List Stmt} {t u : TS} {e : Expr} {te : TE} {pos : Pos}
def tNext : TS := fun D σ H => D.nx σ H
def tSeq (t u : TS) : TS := fun D σ H => t { D with nx := u D } σ H
theorem pss_nil : PSs X [] tNext := fun _ _ σ H _ I h => wpAny_execs_nil ⟨σ, H, I, h⟩
theorem pss_cons (h1 : PS X st t) (h2 : PSs X rest u) : PSs X (st :: rest) (tSeq t u) := by
  intro pins s σ H D I h
  refine wpAny_execs_cons (thn (h1 pins s σ H { D with nx := u D } I h) fun f s1 q => ?_)
  cases f with
  | next =>
    obtain ⟨σ', H', I', q⟩ := q
    exact h2 pins s1 σ' H' D I' q
  | ret v => exact q
  | brk => exact q
  | cont => exact q
theorem pss_one (h1 : PS X st t) : PSs X [st] t := by
  intro pins s σ H D I h
  refine wpAny_execs_cons (thn (h1 pins s σ H D I h) fun f s1 q => ?_)
  cases f with
  | next => exact wpAny_execs_nil q
  | ret v => exact q
  | brk => exact q
  | cont => exact q
def tBreak : TS := fun D σ H => D.bk σ H
def tCont : TS := fun D σ H => D.ct σ H
theorem ps_pass : PS X (.Pass pos) tNext := fun _ _ σ H _ I h => wpAny_Pass ⟨σ, H, I, h⟩
theorem ps_break : PS X (.Break pos) tBreak := fun _ _ σ H _ I h => wpAny_Break ⟨σ, H, I, h⟩
theorem ps_continue : PS X (.Continue pos) tCont := fun _ _ σ H _ I h => wpAny_Continue ⟨σ, H, I, h⟩
/-- in a def's body nothing is shown -/
theorem Inv.quiet {pins : List (Addr × Obj)} {σ : St} {H : Hp} {s : Shared} (I : Inv X pins σ H s) : interactive X.env = false := by simp [interactive, I.ok.kind]
/-- a docstring -/
theorem ps_doc {x j pos pos'} : PS X (.Expr (.Constant (.str x) j pos) pos') tNext := fun _ s σ H _ I h => wpAny_Expr (Calls.Constant_str (show SP X _ _ .next { s with toks := s.toks + 1 } from ⟨σ, H, I.tok _, h⟩)) I.quiet
/-- an expression whose value is dropped -/
def tDrop (te : TE) : TS := fun D σ H => te σ H fun _ H1 => D.nx σ H1
theorem ps_expr (he : PE X e te) (hs : swapsWith e none pos.line X.env = pure false := by rfl) : PS X (.Expr e pos) (tDrop te) := by
  intro pins s σ H D I h
  exact wpAny_Expr_any (thn (he pins s σ H _ I h) fun v s1 ⟨x, H1, I1, r1, q1⟩ => ⟨σ, H1, I1, q1⟩) I.quiet hs
def tRet (te : TE) : TS := fun D σ H => te σ H D.rt
theorem ps_ret (he : PE X e te) : PS X (.Return (some e) pos) (tRet te) := by
  intro pins s σ H D I h
  exact wpAny_Return_some (thn (he pins s σ H _ I h) fun v s1 ⟨x, H1, I1, r1, q1⟩ => ⟨x, σ, H1, I1, r1, q1⟩)
def tRetN : TS := fun D _ H => D.rt .non H
theorem ps_retN : PS X (.Return none pos) tRetN := fun _ _ σ H _ I h => wpAny_Return_none ⟨.non, σ, H, I, rfl, h⟩
def tIfS (c : TT) (t u : TS) : TS := fun D σ H => c σ H fun b H1 => if b = true then t D σ H1 else u D σ H1
theorem ps_if {c : Expr} {a b : List Stmt} {tc : TT} (hc : PT X c tc) (ha : PSs X a t) (hb : PSs X b u) : PS X (.If c a b pos) (tIfS tc t u) := by
  intro pins s σ H D I h
  refine wpAny_If (thn (hc pins s σ H _ I h) fun d s1 ⟨H1, I1, q1⟩ => ?_)
  cases d with
  | true => exact ha pins s1 σ H1 D I1 q1
  | false => exact hb pins s1 σ H1 D I1 q1
/-- code that the proof never comes to -/
def tNever : TS := fun _ _ _ => False
theorem ps_never : PS X st tNever := fun _ _ _ _ _ _ h => h.elim
theorem pss_never {sts : List Stmt} : PSs X sts tNever := fun _ _ _ _ _ _ h => h.elim
end

/-! ### targets -/
abbrev TG := V → St → Hp → (St → Hp → Prop) → Prop
abbrev TGs := List V → St → Hp → (St → Hp → Prop) → Prop
def PG (X : Cx) (target : Expr) (t : TG) : Prop :=
  ∀ (pins : List (Addr × Obj)) (s : Shared) (σ : St) (H : Hp) (v : V) (u : Value) (Q : St → Hp → Prop), Inv X pins σ H s → RelV v u → t v σ H Q →
    wpAny (model X.prog X.w) X.A (assign target X.env u) (fun _ s' => ∃ σ' H', Inv X pins σ' H' s' ∧ Q σ' H') X.xe s
/-- several targets, one after another -/
def PGs (X : Cx) (ts : List Expr) (t : TGs) : Prop :=
  ∀ (pins : List (Addr × Obj)) (s : Shared) (σ : St) (H : Hp) (vs : List V) (us : List Value) (Q : St → Hp → Prop), Inv X pins σ H s → Vals vs us → t vs σ H Q →
    wpAny (model X.prog X.w) X.A (assignInOrder ((assignEach ts X.env).map (·.2)) us) (fun _ s' => ∃ σ' H', Inv X pins σ' H' s' ∧ Q σ' H') X.xe s
/-- o[i] = v, by values -/
abbrev TSet := V → V → V → Hp → (Hp → Prop) → Prop
def PSet (X : Cx) (t : TSet) : Prop :=
  ∀ (pins : List (Addr × Obj)) (s : Shared) (σ : St) (H : Hp) (o i v : V) (ov iv u : Value) (Q : Hp → Prop), Inv X pins σ H s → RelV o ov → RelV i iv → RelV v u → t o i v H Q →
    wpAny (model X.prog X.w) X.A (setItem ov iv u) (fun _ s' => ∃ H', Inv X pins σ H' s' ∧ Q H') X.xe s
/-- a op= b, by values -/
abbrev TIp := V → V → Hp → VK → Prop
def PIp (X : Cx) (op : Operator) (t : TIp) : Prop :=
  ∀ (pins : List (Addr × Obj)) (s : Shared) (σ : St) (H : Hp) (x y : V) (v u : Value) (Q : VK), Inv X pins σ H s → RelV x v → RelV y u → t x y H Q →
    wpAny (model X.prog X.w) X.A (inplaceOp op v u) (EP X pins σ Q) X.xe s
section
variable {X : Cx} {pos : Pos}
def gName (i : Nat) : TG := fun v σ H Q => Q (σ.set i (some v)) H
theorem pg_name {i : Nat} {x : Str} (hN : X.N.Nodup) (hi : X.N[i]? = some x) (hx : Loc X.env.scope x) (hf : X.fn x = true ∨ X.env.scope.names.lookup x = some .local := by first | exact .inl rfl | exact .inr rfl | assumption) : PG X (.Name x pos) (gName i) := by
  intro pins s σ H v u Q I r h
  exact wpAny_assign_Name (store_ok I hN hi hx r (fun s' I' => ⟨_, H, I', h⟩) hf)
def gNil : TGs := fun vs σ H Q => vs = [] ∧ Q σ H
def gCons (t : TG) (u : TGs) : TGs := fun vs σ H Q => ∃ v r, vs = v :: r ∧ t v σ H fun σ' H' => u r σ' H' Q
theorem pgs_nil : PGs X [] gNil := by
  intro pins s σ H vs us Q I r h
  obtain ⟨e, h⟩ := h
  subst e
  cases r
  exact assignInOrder_nil ⟨σ, H, I, h⟩
theorem pgs_cons {e : Expr} {es : List Expr} {t : TG} {u : TGs} (h1 : PG X e t) (h2 : PGs X es u)
    (hs : (assignEach (e :: es) X.env).map (·.2) = assign e X.env :: (assignEach es X.env).map (·.2) := by rfl) : PGs X (e :: es) (gCons t u) := by
  intro pins s σ H vs us Q I r h
  obtain ⟨v, vr, e1, h⟩ := h
  subst e1
  cases r with
  | cons r rr =>
    rw [hs]
    refine assignInOrder_cons (thn (h1 pins s σ H _ _ _ I r h) fun _ s1 ⟨σ1, H1, I1, q1⟩ => ?_)
    exact h2 pins s1 σ1 H1 _ _ Q I1 rr q1
/-- (a, b, ..) = a tuple of that length -/
def gTup (K : PySem.W.Frag) (n : Nat) (t : TGs) : TG := fun v σ H Q => ∃ a xs, v = .ref a ∧ SqT K H a xs ∧ xs.length = n ∧ t xs σ H Q
theorem pg_tup {es : List Expr} {k : Nat} {t : TGs} {n : Nat} (hc : X.calm = true) (h : PGs X es t)
    (hn : (assignEach es X.env).length = n := by rfl) (hst : (assignEach es X.env).findIdx? (·.1) = none := by rfl) : PG X (.Tuple es k pos) (gTup X.K n t) := by
  intro pins s σ H v u Q I r hw
  obtain ⟨a, xs, e1, hq, hl, hw⟩ := hw
  subst e1
  cases r
  obtain ⟨its, rv, ht, hz⟩ := I.tuple hq
  refine assign_Tuple_tuple (I.ok.hd hc) ht (by simp [hn, ← hl, rv.length]) hst fun h' hx => ?_
  have I1 : Inv X pins σ H { s with heap := h' } := I.kept (t' := s.toks) fun b o e => hx b o (Nat.ne_of_lt (Heap.lt_size e)) e
  exact h pins _ σ H xs _ Q I1 (by simpa using rv) hw
/-- o[i] = .. -/
def gSub (to ti : TE) (t : TSet) : TG := fun v σ H Q => to σ H fun o H1 => ti σ H1 fun i H2 => t o i v H2 fun H3 => Q σ H3
theorem pg_sub {o i : Expr} {to ti : TE} {t : TSet} (ho : PE X o to) (hi : PE X i ti) (hs : PSet X t)
    (ha : ∀ v, assign (.Subscript o i pos) X.env v = (do
      let ov ← holding [v] (eval o X.env)
      let iv ← holding [v, ov] (eval i X.env)
      standAt pos
      holding [v, ov, iv] (setItem ov iv v)
      release [v, ov, iv] []) := by intro _; rfl) : PG X (.Subscript o i pos) (gSub to ti t) := by
  intro pins s σ H v u Q I r h
  rw [ha]
  refine wpAny_bind (wpAny_holding (thn (ho pins s σ H _ I h) fun ov s1 ⟨x, H1, I1, r1, q1⟩ => ?_))
  refine wpAny_bind (wpAny_holding (thn (hi pins s1 σ H1 _ I1 q1) fun iv s2 ⟨y, H2, I2, r2, q2⟩ => ?_))
  refine wpAny_bind (wpAny_standAt (wpAny_bind (wpAny_holding (thn (hs pins s2 σ H2 x y v ov iv u _ I2 r1 r2 r q2) fun _ s3 ⟨H3, I3, q3⟩ => ?_))))
  exact wpAny_release ⟨σ, H3, I3, q3⟩
/-- target = value -/
def tAsg (te : TE) (g : TG) : TS := fun D σ H => te σ H fun x H1 => g x σ H1 D.nx
theorem ps_asg {tg e : Expr} {te : TE} {g : TG} (he : PE X e te) (hg : PG X tg g) (hs : swapsWithSole [tg] e pos.line X.env = pure false := by rfl) (hw : swappedStores [tg] e X.env = pure none := by rfl)
    (h1 : (assignEach [tg] X.env).map (·.2) = [assign tg X.env] := by rfl) : PS X (.Assign [tg] e pos) (tAsg te g) := by
  intro pins s σ H D I h
  refine wpAny_Assign_stores (thn (he pins s σ H _ I h) fun v s1 ⟨x, H1, I1, r1, q1⟩ => ?_) hs hw
  rw [h1]
  exact thn (hg pins s1 σ H1 x v _ I1 r1 q1) fun _ s2 q => q
/-- name = value -/
theorem ps_set {i : Nat} {x : Str} {e : Expr} {te : TE} {pos' : Pos} (hN : X.N.Nodup) (hi : X.N[i]? = some x) (hx : Loc X.env.scope x) (he : PE X e te) (hs : swapsWith e (some (.Name x pos')) pos.line X.env = pure false := by rfl) (hf : X.fn x = true ∨ X.env.scope.names.lookup x = some .local := by first | exact .inl rfl | exact .inr rfl | assumption) :
    PS X (.Assign [.Name x pos'] e pos) (tAsg te (gName i)) := by
  intro pins s σ H D I h
  refine wpAny_Assign_Name (thn (he pins s σ H _ I h) fun v s1 ⟨y, H1, I1, r1, q1⟩ => ?_) hs
  exact store_ok I1 hN hi hx r1 (fun s2 I2 => ⟨_, H1, I2, q1⟩) hf
/-- a, b = x, y with plain local names: stored from the right; the pair itself is not tracked (the opening rows as in PyProof/Rows/TupAssign.lean:23) -/
def tPar (i j : Nat) (ta : TA) : TS := fun D σ H => ta σ H fun vs H1 => ∃ v w, vs = [v, w] ∧ D.nx ((σ.set i (some v)).set j (some w)) H1
theorem ps_par {i j : Nat} {x y : Str} {a b : Expr} {ta : TA} {px py pt : Pos} {kt k2 pt2} (hc : X.calm = true) (hN : X.N.Nodup) (hi : X.N[i]? = some x) (hj : X.N[j]? = some y) (hij : i ≠ j)
    (hx : X.env.scope.names.lookup x = some .local) (hy : X.env.scope.names.lookup y = some .local) (ha : PA X [a, b] ta)
    (hw : swappedStores [.Tuple [.Name x px, .Name y py] kt pt] (.Tuple [a, b] k2 pt2) X.env = pure (some [x, y]))
    (hs : swapsWithSole [.Tuple [.Name x px, .Name y py] kt pt] (.Tuple [a, b] k2 pt2) pos.line X.env = pure false := by rfl) :
    PS X (.Assign [.Tuple [.Name x px, .Name y py] kt pt] (.Tuple [a, b] k2 pt2) pos) (tPar i j ta) := by
  intro pins s σ H D I h
  rw [exec_Assign_arm]
  refine wpAny_bind (wpAny_standAt ?_)
  rw [hs]
  refine wpAny_bind (wpAny_pure ?_)
  rw [if_neg (by decide)]
  refine wpAny_bind (Tuple_ (thn (ha _ pins s σ H _ I h) fun us s1 ⟨vs, H1, I1, r1, q1⟩ => ?_))
  obtain ⟨v, w, e1, q1⟩ := q1
  subst e1
  obtain ⟨u1, u2, rfl, rv, rw'⟩ : ∃ u1 u2, us = [u1, u2] ∧ RelV v u1 ∧ RelV w u2 := by
    cases r1 with
    | cons p q =>
      cases q with
      | cons p' q' =>
        cases q'
        exact ⟨_, _, rfl, p, p'⟩
  refine wpAny_newObj_type ?_ (by show 2 ≤ sizeLine; decide)
  have I2 : Inv X pins σ H1 { s1 with heap := s1.heap.push { cls := .type "tuple", data := .seq [u1, u2].toArray } } := I1.kept (t' := s1.toks) fun b o e => Heap.get?_push_of_some _ e
  rw [hw]
  refine wpAny_bind (wpAny_pure ?_)
  show wpAny (model X.prog X.w) X.A (do rule "assign.swapped-stores"; let items ← unpackItems (.ref s1.heap.objs.size) 2 none; assignInOrder [fun v => bindName X.env y v, fun v => bindName X.env x v] items.reverse; pure Flow.next) _ _ _
  refine wpAny_bind (wpAny_rule (wpAny_bind (unpackItems_tuple (items := #[u1, u2]) (I.ok.hd hc) (IsTup.new s1.heap _) fun h' hx' => ?_)))
  have I3 := I2.kept (h' := h') (t' := s1.toks) fun b o e => hx' b o (Nat.ne_of_lt (Heap.lt_size e)) e
  show wpAny _ _ (assignInOrder [fun v => bindName X.env y v, fun v => bindName X.env x v] [u2, u1] >>= fun _ => pure Flow.next) _ _ _
  refine wpAny_bind (assignInOrder_cons (wpAny_bindName (store_ok I3 hN hj (.inl hy) rw' (fun s2 I4 => ?_) (.inr hy))))
  refine assignInOrder_cons (wpAny_bindName (store_ok I4 hN hi (.inl hx) rv (fun s3 I5 => assignInOrder_nil (wpAny_pure ?_)) (.inr hx)))
  rw [List.set_comm _ _ (Ne.symm hij)] at I5
  exact ⟨_, H1, I5, q1⟩
/-- name op= e -/
def tAug (i : Nat) (te : TE) (ti : TIp) : TS := fun D σ H => ∃ x, σ[i]? = some (some x) ∧ te σ H fun y H1 => ti x y H1 fun z H2 => D.nx (σ.set i (some z)) H2
theorem ps_aug {i : Nat} {x : Str} {e : Expr} {te : TE} {op : Operator} {ti : TIp} {pos' : Pos} (hN : X.N.Nodup) (hi : X.N[i]? = some x) (hx : Loc X.env.scope x) (he : PE X e te) (ho : PIp X op ti) (hf : X.fn x = true ∨ X.env.scope.names.lookup x = some .local := by first | exact .inl rfl | exact .inr rfl | assumption) :
    PS X (.AugAssign (.Name x pos') op e pos) (tAug i te ti) := by
  intro pins s σ H D I h
  obtain ⟨v, e1, h⟩ := h
  obtain ⟨m, hn, hl⟩ := I.loc
  have vis : Vis X.env.scope x := by rcases hx with k | k; exact .inl k; exact .inr (.inl k)
  obtain ⟨u, r, l⟩ := hl i x v hi e1 vis
  refine wpAny_AugAssign_Name ?_
  have go : wpAny (model X.prog X.w) X.A (eval e X.env) (fun w s₂ => wpAny (model X.prog X.w) X.A (inplaceOp op u w) (fun r s₃ => wpAny (model X.prog X.w) X.A (storeName X.env x r) (fun _ => SP X pins D .next) X.xe s₃) X.xe s₂) X.xe s := by
    refine thn (he pins s σ H _ I h) fun w s1 ⟨y, H1, I1, r1, q1⟩ => ?_
    refine thn (ho pins s1 σ H1 v y u w _ I1 r r1 q1) fun z s2 ⟨zv, H2, I2, r2, q2⟩ => ?_
    exact store_ok I2 hN hi hx r2 (fun s3 I3 => ⟨_, H2, I3, q2⟩) hf
  rcases l with ⟨hk, hm⟩ | ⟨hk, c, hc, hcell⟩
  · exact wpAny_loadName_local I.ok.kind hk hn hm go
  · rcases hk with hk | hk
    · exact wpAny_loadName_cell I.ok.kind hk hc hcell go
    · rcases hx with k | k
      · have : X.env.scope.names.lookup x = some .free := hk
        rw [k] at this; cases this
      · have : X.env.scope.names.lookup x = some .free := hk
        rw [k] at this; cases this
/-- o[i] op= e -/
def tAugS (to ti te : TE) (tget : V → V → Hp → VK → Prop) (tip : TIp) (tset : TSet) : TS := fun D σ H => to σ H fun o H1 => ti σ H1 fun i H2 => tget o i H2 fun x H3 => te σ H3 fun y H4 => tip x y H4 fun z H5 => tset o i z H5 fun H6 => D.nx σ H6
/-- o[i], by values -/
def PGet (X : Cx) (t : V → V → Hp → VK → Prop) : Prop :=
  ∀ (pins : List (Addr × Obj)) (s : Shared) (σ : St) (H : Hp) (o i : V) (ov iv : Value) (Q : VK), Inv X pins σ H s → RelV o ov → RelV i iv → t o i H Q →
    wpAny (model X.prog X.w) X.A (getItem ov iv) (EP X pins σ Q) X.xe s
theorem ps_augS {o i e : Expr} {to ti te : TE} {tget : V → V → Hp → VK → Prop} {tip : TIp} {tset : TSet} {op : Operator} {tpos : Pos} (ho : PE X o to) (hi : PE X i ti) (hg : PGet X tget) (he : PE X e te) (hp : PIp X op tip) (hs : PSet X tset)
    (ha : ∀ ov iv new, augStore i ov iv new = (do holding [new, ov, iv] (setItem ov iv new); release [new, ov, iv] []; pure .next) := by intros; rfl) : PS X (.AugAssign (.Subscript o i tpos) op e pos) (tAugS to ti te tget tip tset) := by
  intro pins s σ H D I h
  refine wpAny_AugAssign_SubscriptAny (thn (ho pins s σ H _ I h) fun ov s1 ⟨x1, H1, I1, r1, q1⟩ => ?_) ha
  refine thn (hi pins s1 σ H1 _ I1 q1) fun iv s2 ⟨x2, H2, I2, r2, q2⟩ => ?_
  refine thn (hg pins s2 σ H2 x1 x2 ov iv _ I2 r1 r2 q2) fun old s3 ⟨x3, H3, I3, r3, q3⟩ => ?_
  refine thn (he pins s3 σ H3 _ I3 q3) fun v s4 ⟨x4, H4, I4, r4, q4⟩ => ?_
  refine thn (hp pins s4 σ H4 x3 x4 old v _ I4 r3 r4 q4) fun new s5 ⟨x5, H5, I5, r5, q5⟩ => ?_
  exact thn (hs pins s5 σ H5 x1 x2 x5 ov iv new _ I5 r1 r2 r5 q5) fun _ s6 ⟨H6, I6, q6⟩ => ⟨σ, H6, I6, q6⟩
/-- ints -/
def ipI (f : Int → Int → Int) : TIp := fun x y H Q => ∃ i j, x = .int i ∧ y = .int j ∧ Q (.int (f i j)) H
theorem ip_add : PIp X .Add (ipI fun i j => i + j) := by
  intro pins s σ H x y v u Q I r1 r2 h
  obtain ⟨i, j, e1, e2, q⟩ := h
  subst e1; subst e2
  obtain ⟨t, rfl⟩ := r1
  obtain ⟨t', rfl⟩ := r2
  exact iadd_int ⟨.int _, H, I.tok _, ⟨_, rfl⟩, q⟩
theorem ip_sub : PIp X .Sub (ipI fun i j => i - j) := by
  intro pins s σ H x y v u Q I r1 r2 h
  obtain ⟨i, j, e1, e2, q⟩ := h
  subst e1; subst e2
  obtain ⟨t, rfl⟩ := r1
  obtain ⟨t', rfl⟩ := r2
  exact isub_int ⟨.int _, H, I.tok _, ⟨_, rfl⟩, q⟩
end

/-! ### while -/
section
variable {X : Cx} {pos : Pos}
/-- the invariant W with its measure -/
def tWhile (c : TT) (tb : TS) : TS := fun D σ H => ∃ W : Nat → St → Hp → Prop, (∃ m, W m σ H) ∧ ∀ m σ H, W m σ H →
  c σ H fun b H1 => if b = true then ∃ N : St → Hp → Prop, (∀ σ' H', N σ' H' → ∃ m', m' < m ∧ W m' σ' H') ∧ tb { D with nx := N, ct := N, bk := D.nx } σ H1 else D.nx σ H1
theorem ps_while {c : Expr} {body : List Stmt} {tc : TT} {tb : TS} (hp : PassesOwn (model X.prog X.w) X.A X.env X.xe) (hc : PT X c tc) (hb : PSs X body tb) : PS X (.While c body [] pos) (tWhile tc tb) := by
  intro pins s σ H D I h
  obtain ⟨W, ⟨m0, w0⟩, turn⟩ := h
  refine wpAny_While (codeAny_whileLoop (fun n s' => ∃ σ' H', Inv X pins σ' H' s' ∧ W n σ' H') ?_ m0 ⟨σ, H, I, w0⟩)
  rintro n s1 ⟨σ1, H1, I1, w1⟩
  refine wpAny_passesOwn hp (thn (hc pins s1 σ1 H1 _ I1 (turn n σ1 H1 w1)) fun b s2 ⟨H2, I2, q2⟩ => ?_)
  cases b with
  | true =>
    obtain ⟨N, hN, q2⟩ := q2
    rw [if_pos rfl]
    refine wpAny_passesOwn hp (thn (hb pins s2 σ1 H2 _ I2 q2) fun f s3 q3 => ?_)
    cases f with
    | next =>
      obtain ⟨σ3, H3, I3, n3⟩ := q3
      obtain ⟨m', hm, w3⟩ := hN σ3 H3 n3
      exact ⟨m', hm, σ3, H3, I3, w3⟩
    | cont =>
      obtain ⟨σ3, H3, I3, n3⟩ := q3
      obtain ⟨m', hm, w3⟩ := hN σ3 H3 n3
      exact ⟨m', hm, σ3, H3, I3, w3⟩
    | brk => exact q3
    | ret v => exact q3
  | false =>
    rw [if_neg Bool.false_ne_true]
    exact wpAny_execs_nil ⟨σ1, H2, I2, q2⟩
end

/-! ### what a loop or a comprehension walks -/
/-- at turn i: it yields x (the heap may grow), or it stops -/
structure It where
  go : Nat → Hp → Prop
  yld : Nat → Hp → V → Hp → Prop
  stop : Nat → Hp → Prop
/-- the iterator's own objects may turn: they are not the frame's, not pinned, younger than the entry (or a comprehension's own) -/
def FpOk (X : Cx) (pins : List (Addr × Obj)) (H : Hp) (b : Addr) : Prop :=
  H b = none ∧ b ≠ X.env.locals ∧ b ∉ X.fs ∧ (b ∈ X.ex ∨ X.s₀.heap.objs.size ≤ b) ∧ (∀ x c, X.env.cells.lookup x = some c → c ≠ b) ∧ ∀ p ∈ X.pn ++ pins, p.1 ≠ b
theorem Inv.fpOk {X : Cx} {pins : List (Addr × Obj)} {σ : St} {H H' : Hp} {s : Shared} {b : Addr} (I : Inv X pins σ H s) (hb : s.heap.objs.size ≤ b) (hn : H' b = none) : FpOk X pins H' b := by
  refine ⟨hn, Nat.ne_of_gt (Nat.lt_of_lt_of_le I.lt hb), I.nofs hb, .inr (Nat.le_trans I.sz hb), fun x c e z => ?_, fun p hp z => ?_⟩
  · obtain ⟨v, q⟩ := I.cell x c e
    exact absurd (Nat.lt_of_lt_of_le q.lt (by rw [z]; exact hb)) (Nat.lt_irrefl _)
  · exact absurd (Nat.lt_of_lt_of_le (Heap.lt_size (I.pin p hp).1) (by rw [z]; exact hb)) (Nat.lt_irrefl _)
structure Turn (P : Program) (w : World) (K : PySem.W.Frag) (tg : Expr) (J : It) (fp : List Addr) (it : Addr) (tn : Nat → Heap → Prop) : Prop where
  mem : it ∈ fp
  obj : ∀ i h, tn i h → ∀ b ∈ fp, ∃ o, h.get? b = some o ∧ ∀ v, o.data ≠ .cell v
  keep : ∀ i h h', tn i h → (∀ b ∈ fp, ∀ o, h.get? b = some o → h'.get? b = some o) → tn i h'
  item : ∀ (X : Cx), X.prog = P → X.w = w → X.K = K → X.calm = true → ∀ (i : Nat) (pins : List (Addr × Obj)) (s : Shared) (σ : St) (H : Hp) (E : Value → Shared → Prop), Inv X pins σ H s → (∀ b ∈ fp, FpOk X pins H b) → tn i s.heap → J.go i H →
    wpAny (model P w) X.A (pyNext (.ref it)) (fun r s1 => ∃ u, r = some u ∧
      wpAny (model P w) X.A (letOwnedTupleGo tg (.ref it) u) (fun _ s2 => ∃ x H', Inv X pins σ H' s2 ∧ RelV x u ∧ J.yld i H x H' ∧ tn (i + 1) s2.heap ∧ ∀ b ∈ fp, H' b = none) E s1) E s
  done : ∀ (X : Cx), X.prog = P → X.w = w → X.K = K → X.calm = true → ∀ (i : Nat) (pins : List (Addr × Obj)) (s : Shared) (σ : St) (H : Hp) (E : Value → Shared → Prop), Inv X pins σ H s → (∀ b ∈ fp, FpOk X pins H b) → tn i s.heap → J.stop i H →
    wpAny (model P w) X.A (pyNext (.ref it)) (fun r s1 => r = none ∧ Inv X pins σ H s1) E s
  self : ∀ (A : Around) (i : Nat) (s : Shared) (Q : Value → Shared → Prop) (E : Value → Shared → Prop), tn i s.heap → Q (.ref it) s → wpAny (model P w) A (pyIter (.ref it)) Q E s
abbrev TI := St → Hp → (It → Hp → Prop) → Prop
/-- an iterator has come -/
def PIE (X : Cx) (pins : List (Addr × Obj)) (σ : St) (tg : Expr) (R : It → Hp → Prop) (itv : Value) (s2 : Shared) : Prop :=
  ∃ (it : Addr) (fp : List Addr) (tn : Nat → Heap → Prop) (J : It) (H' : Hp), itv = .ref it ∧ Inv X pins σ H' s2 ∧ Turn X.prog X.w X.K tg J fp it tn ∧ tn 0 s2.heap ∧ (∀ b ∈ fp, FpOk X pins H' b) ∧ R J H'
def PI (X : Cx) (tg iter : Expr) (wi : TI) : Prop :=
  ∀ (pins : List (Addr × Obj)) (s : Shared) (σ : St) (H : Hp) (R : It → Hp → Prop), Inv X pins σ H s → wi σ H R →
    wpAny (model X.prog X.w) X.A (eval iter X.env) (fun v s1 => wpAny (model X.prog X.w) X.A (pyIter v) (PIE X pins σ tg R) X.xe s1) X.xe s

/-- the step ahead of the store is nothing for an iterator that keeps no tuple -/
theorem go_of {M : Model} {A : Around} {E : Value → Shared → Prop} {s : Shared} {tg : Expr} {it : Addr} {u : Value} {o : Obj} {n : String} {vs : Array Value} {Q : Unit → Shared → Prop} (ho : s.heap.get? it = some o) (hc : o.cls = .type n) (hd : o.data = .fields vs)
    (hn : ["enumerate", "zip", "dict_itemiterator", "dict_reverseitemiterator", "odict_iterator", "itertools.zip_longest", "itertools.pairwise"].contains n = false) (hQ : Q () s) : wpAny M A (letOwnedTupleGo tg (.ref it) u) Q E s := by
  unfold letOwnedTupleGo
  cases tg <;> first
    | exact wpAny_pure hQ
    | (cases u <;> first
        | exact wpAny_pure hQ
        | (refine wpAny_bind (wpAny_load ho ?_)
           rw [hc, hd]
           show wpAny M A (if (["enumerate", "zip", "dict_itemiterator", "dict_reverseitemiterator", "odict_iterator", "itertools.zip_longest", "itertools.pairwise"].contains n && vs[0]? == some (rawInt _)) = true then _ else _) Q E s
           rw [if_neg (by intro h; rw [hn, Bool.false_and] at h; cases h)]
           exact wpAny_pure hQ))

/-- the list at a, as it stands at each turn (a loop may append to it) -/
def Itl (K : PySem.W.Frag) (a : Addr) : It :=
  ⟨fun i H => ∃ xs x, SqL K H a xs ∧ xs[i]? = some x, fun i H x H' => H' = H ∧ ∀ xs, SqL K H a xs → xs[i]? = some x, fun i H => ∃ xs, SqL K H a xs ∧ xs.length ≤ i⟩
def Itt (K : PySem.W.Frag) (a : Addr) : It :=
  ⟨fun i H => ∃ xs x, SqT K H a xs ∧ xs[i]? = some x, fun i H x H' => H' = H ∧ ∀ xs, SqT K H a xs → xs[i]? = some x, fun i H => ∃ xs, SqT K H a xs ∧ xs.length ≤ i⟩
/-- lo, lo + 1, .. (n of them) -/
def Itr (lo : Int) (n : Nat) : It := ⟨fun i _ => i < n, fun i H x H' => H' = H ∧ x = .int (lo + i), fun i _ => n ≤ i⟩
theorem turn_list {P : Program} {w : World} {K : PySem.W.Frag} {tg : Expr} (a it : Addr) : Turn P w K tg (Itl K a) [it] it (fun i h => h.IsListIter it a i) where
  mem := by simp
  obj := fun i h st b hb => by
    have e : b = it := by simpa using hb
    subst e
    obtain ⟨o, e, c, d⟩ := st
    exact ⟨o, e, fun v z => by rw [d] at z; cases z⟩
  keep := fun i h h' st k => st.at fun o e => k it (by simp) o e
  item := by
    intro X hP hw hK hc i pins s σ H E I hf st hg
    subst hP hw hK
    obtain ⟨xs, x, hq, hx⟩ := hg
    obtain ⟨its, rv, p, hz⟩ := I.list hq
    obtain ⟨u, hu, ru⟩ := rv.get hx
    obtain ⟨f0, f1, f2, f3, f4, f5⟩ := hf it (by simp)
    refine wpAny_pyNext_list_item st p.isList (x := u) (by simpa using hu) fun h' st' sb => ?_
    have I1 : Inv X pins σ H { s with heap := h' } := I.turned (t' := s.toks) (fun b o hb e => (sb.2 b hb).trans e) f0 f1 f3 f4 f5
    obtain ⟨o, e, c, d⟩ := id st'
    exact ⟨u, rfl, go_of (s := { s with heap := h' }) e c d (by decide) ⟨x, H, I1, ru, ⟨rfl, fun ys hy => by rw [I.list_inj hy hq]; exact hx⟩, st', fun b hb => (hf b hb).1⟩⟩
  done := by
    intro X hP hw hK hc i pins s σ H E I hf st hg
    subst hP hw hK
    obtain ⟨xs, hq, hx⟩ := hg
    obtain ⟨its, rv, p, hz⟩ := I.list hq
    obtain ⟨f0, f1, f2, f3, f4, f5⟩ := hf it (by simp)
    have hl := rv.length
    exact wpAny_pyNext_list_end (I.ok.hd hc) st p.isList (by simp; omega) fun h' eb => ⟨rfl, I.turned (t' := s.toks) (fun b o hb e => eb b o hb e) f0 f1 f3 f4 f5⟩
  self := fun _ _ _ _ _ st h => wpAny_pyIter_listiter st h
theorem turn_tuple {P : Program} {w : World} {K : PySem.W.Frag} {tg : Expr} (a it : Addr) : Turn P w K tg (Itt K a) [it] it (fun i h => h.IsTupleIter it a i) where
  mem := by simp
  obj := fun i h st b hb => by
    have e : b = it := by simpa using hb
    subst e
    obtain ⟨o, e, c, d⟩ := st
    exact ⟨o, e, fun v z => by rw [d] at z; cases z⟩
  keep := fun i h h' st k => st.at fun o e => k it (by simp) o e
  item := by
    intro X hP hw hK hc i pins s σ H E I hf st hg
    subst hP hw hK
    obtain ⟨xs, x, hq, hx⟩ := hg
    obtain ⟨its, rv, p, hz⟩ := I.tuple hq
    obtain ⟨u, hu, ru⟩ := rv.get hx
    obtain ⟨f0, f1, f2, f3, f4, f5⟩ := hf it (by simp)
    refine wpAny_pyNext_tuple_item st (show s.heap.IsTuple a its.toArray from p) (x := u) (by simpa using hu) fun h' st' sb => ?_
    have I1 : Inv X pins σ H { s with heap := h' } := I.turned (t' := s.toks) (fun b o hb e => (sb.2 b hb).trans e) f0 f1 f3 f4 f5
    obtain ⟨o, e, c, d⟩ := id st'
    exact ⟨u, rfl, go_of (s := { s with heap := h' }) e c d (by decide) ⟨x, H, I1, ru, ⟨rfl, fun ys hy => by rw [I.tuple_inj hy hq]; exact hx⟩, st', fun b hb => (hf b hb).1⟩⟩
  done := by
    intro X hP hw hK hc i pins s σ H E I hf st hg
    subst hP hw hK
    obtain ⟨xs, hq, hx⟩ := hg
    obtain ⟨its, rv, p, hz⟩ := I.tuple hq
    obtain ⟨f0, f1, f2, f3, f4, f5⟩ := hf it (by simp)
    have hl := rv.length
    exact wpAny_pyNext_tuple_end (I.ok.hd hc) st (show s.heap.IsTuple a its.toArray from p) (by simp; omega) fun h' eb => ⟨rfl, I.turned (t' := s.toks) (fun b o hb e => eb b o hb e) f0 f1 f3 f4 f5⟩
  self := fun _ _ _ _ _ st h => wpAny_pyIter_tupleiter st h
theorem turn_range {P : Program} {w : World} {K : PySem.W.Frag} {tg : Expr} (it : Addr) (lo : Int) (n : Nat) : Turn P w K tg (Itr lo n) [it] it (fun i h => IsRangeIter h it (lo + (i : Nat) * 1) ((n : Int) - (i : Nat)) 1) where
  mem := by simp
  obj := fun i h st b hb => by
    have e : b = it := by simpa using hb
    subst e
    exact ⟨_, st, fun v z => by
      have z' : Data.fields _ = Data.cell v := z
      cases z'⟩
  keep := fun i h h' st k => k it (by simp) _ st
  item := by
    intro X hP hw hK hc i pins s σ H E I hf st hg
    subst hP hw hK
    obtain ⟨f0, f1, f2, f3, f4, f5⟩ := hf it (by simp)
    have W := Walks.range (prog := X.prog) (w := X.w) (I.ok.hd hc) it lo 1 n
    refine W.item i s _ _ hg st fun v h' tk hv st' kk => ?_
    obtain ⟨t, rfl⟩ := hv
    have I1 : Inv X pins σ H { s with heap := h', toks := tk } := I.turned (fun b o hb e => kk b o (by simpa using hb) e) f0 f1 f3 f4 f5
    refine ⟨_, rfl, go_of (s := { s with heap := h', toks := tk }) (n := "range_iterator") st' rfl rfl (by decide) ⟨.int (lo + i), H, I1, ⟨t, ?_⟩, ⟨rfl, rfl⟩, st', fun b hb => (hf b hb).1⟩⟩
    rw [Int.mul_one]
  done := by
    intro X hP hw hK hc i pins s σ H E I hf st hg
    subst hP hw hK
    obtain ⟨f0, f1, f2, f3, f4, f5⟩ := hf it (by simp)
    exact wpAny_pyNext_range_end (I.ok.hd hc) st (by have : n ≤ i := hg; omega) fun h' eb => ⟨rfl, I.turned (t' := s.toks) (fun b o hb e => eb b o hb e) f0 f1 f3 f4 f5⟩
  self := fun _ _ _ _ _ st h => wpAny_pyIter_rangeiter st h
end L2

namespace L2
open PySem PySem.Spec PyProof.Rows
section
variable {X : Cx} {tg : Expr}
def iList (K : PySem.W.Frag) (tl : TE) : TI := fun σ H R => tl σ H fun x H1 => ∃ a, x = .ref a ∧ (∃ xs, SqL K H1 a xs) ∧ R (Itl K a) H1
def iTup (K : PySem.W.Frag) (tl : TE) : TI := fun σ H R => tl σ H fun x H1 => ∃ a, x = .ref a ∧ (∃ xs, SqT K H1 a xs) ∧ R (Itt K a) H1
theorem pi_list {l : Expr} {tl : TE} (hl : PE X l tl) : PI X tg l (iList X.K tl) := by
  intro pins s σ H R I h
  refine thn (hl pins s σ H _ I h) fun v s1 ⟨x, H1, I1, r1, q1⟩ => ?_
  obtain ⟨a, e, ⟨xs, hq⟩, q⟩ := q1
  subst e
  cases r1
  obtain ⟨its, rv, p, hz⟩ := I1.list hq
  refine wpAny_pyIter_list p.isList ?_
  refine ⟨s1.heap.objs.size, [s1.heap.objs.size], _, _, H1, rfl, I1.kept (t' := s1.toks) fun b o e => Heap.get?_push_of_some _ e, turn_list a _, ⟨_, Heap.get?_push_size _ rfl, rfl, rfl⟩, fun b hb => ?_, q⟩
  have e : b = s1.heap.objs.size := by simpa using hb
  subst e
  exact I1.fpOk (Nat.le_refl _) (I1.hok.fresh (Nat.le_refl _))
theorem pi_tup {l : Expr} {tl : TE} (hl : PE X l tl) : PI X tg l (iTup X.K tl) := by
  intro pins s σ H R I h
  refine thn (hl pins s σ H _ I h) fun v s1 ⟨x, H1, I1, r1, q1⟩ => ?_
  obtain ⟨a, e, ⟨xs, hq⟩, q⟩ := q1
  subst e
  cases r1
  obtain ⟨its, rv, p, hz⟩ := I1.tuple hq
  refine wpAny_pyIter_tuple (show s1.heap.IsTuple a its.toArray from p) ?_
  refine ⟨s1.heap.objs.size, [s1.heap.objs.size], _, _, H1, rfl, I1.kept (t' := s1.toks) fun b o e => Heap.get?_push_of_some _ e, turn_tuple a _, ⟨_, Heap.get?_push_size _ rfl, rfl, rfl⟩, fun b hb => ?_, q⟩
  have e : b = s1.heap.objs.size := by simpa using hb
  subst e
  exact I1.fpOk (Nat.le_refl _) (I1.hok.fresh (Nat.le_refl _))
/-- a range object just made, walked -/
theorem range_it {pins : List (Addr × Obj)} {σ : St} {H : Hp} {s : Shared} {R : It → Hp → Prop} {E : Value → Shared → Prop} {lo hi : Int} {t u v : Tok} {tk : Nat} (I : Inv X pins σ H s) (h1 : -(2 ^ 62) ≤ lo) (h2 : lo < 2 ^ 62) (h3 : -(2 ^ 62) ≤ hi) (h4 : hi < 2 ^ 62)
    (q : R (Itr lo (hi - lo).toNat) H) : wpAny (model X.prog X.w) X.A (pyIter (.ref s.heap.objs.size)) (PIE X pins σ tg R) E { s with heap := s.heap.push { cls := .type "range", data := .fields #[.int lo t, .int hi u, .int 1 v] }, toks := tk } := by
  refine wpAny_pyIter_range (IsRange.new ..) (small_one h1 h2 h3 h4) ?_
  have I1 : Inv X pins σ H { s with heap := s.heap.push { cls := .type "range", data := .fields #[.int lo t, .int hi u, .int 1 v] }, toks := tk } := I.kept fun b o e => Heap.get?_push_of_some _ e
  refine ⟨(s.heap.push { cls := .type "range", data := .fields #[.int lo t, .int hi u, .int 1 v] }).objs.size, [(s.heap.push { cls := .type "range", data := .fields #[.int lo t, .int hi u, .int 1 v] }).objs.size], _, _, H, rfl,
    I1.kept (t' := tk) fun b o e => Heap.get?_push_of_some _ e, turn_range _ lo (hi - lo).toNat, ?_, fun b hb => ?_, q⟩
  · have e1 : lo + ((0 : Nat) : Int) * 1 = lo := by simp
    have e2 : (((hi - lo).toNat : Nat) : Int) - ((0 : Nat) : Int) = Builtin.Range.rangeSize lo hi 1 := by rw [rangeSize_one]; split <;> omega
    show IsRangeIter _ _ (lo + ((0 : Nat) : Int) * 1) ((((hi - lo).toNat : Nat) : Int) - ((0 : Nat) : Int)) 1
    rw [e1, e2]
    exact Heap.get?_push_size _ rfl
  · have e : b = (s.heap.push { cls := .type "range", data := .fields #[.int lo t, .int hi u, .int 1 v] }).objs.size := by simpa using hb
    subst e
    exact I1.fpOk (Nat.le_refl _) (I1.hok.fresh (Nat.le_refl _))
def iRng1 (ta : TA) : TI := fun σ H R => ta σ H fun vs H1 => ∃ j : Int, vs = [.int j] ∧ -(2 ^ 62) ≤ j ∧ j < 2 ^ 62 ∧ R (Itr 0 j.toNat) H1
def iRng2 (ta : TA) : TI := fun σ H R => ta σ H fun vs H1 => ∃ i j : Int, vs = [.int i, .int j] ∧ (-(2 ^ 62) ≤ i ∧ i < 2 ^ 62 ∧ -(2 ^ 62) ≤ j ∧ j < 2 ^ 62) ∧ R (Itr i (j - i).toNat) H1
theorem pi_range1 {a : Expr} {ta : TA} {p pos : Pos} (hg : Gl X "range") (hm : X.mg "range" = none) (ha : PA X [a] ta) (hs : starEach [a] X.env = [(false, eval a X.env)] := by rfl) : PI X tg (.Call (.Name "range" p) [a] [] pos) (iRng1 ta) := by
  intro pins s σ H R I h
  refine Call_ (ld_blt I hg hm boot_range (PyProof.Rows.callWith_type1 (thn (ha pos pins s σ H _ I h) fun us s1 ⟨vs, H1, I1, r1, q1⟩ => ?_) hs rfl))
  obtain ⟨j, e, q1, q2, q⟩ := q1
  subst e
  cases r1 with
  | cons r rr =>
    cases rr
    obtain ⟨t, rfl⟩ := r
    exact call_range_1 (range_it I1 (by omega) (by omega) q1 q2 (by simpa using q))
theorem pi_range2 {a b : Expr} {ta : TA} {p pos : Pos} (hg : Gl X "range") (hm : X.mg "range" = none) (ha : PA X [a, b] ta) (hs : starEach [a, b] X.env = [(false, eval a X.env), (false, eval b X.env)] := by rfl) (hs2 : starEach [b] X.env = [(false, eval b X.env)] := by rfl) :
    PI X tg (.Call (.Name "range" p) [a, b] [] pos) (iRng2 ta) := by
  intro pins s σ H R I h
  refine Call_ (ld_blt I hg hm boot_range (PyProof.Rows.callWith_type1 (thn (ha pos pins s σ H _ I h) fun us s1 ⟨vs, H1, I1, r1, q1⟩ => ?_) (by rw [hs, hs2]) (by rw [hs2]; rfl)))
  obtain ⟨i, j, e, ⟨q1, q2, q3, q4⟩, q⟩ := q1
  subst e
  cases r1 with
  | cons r rr =>
    cases rr with
    | cons r' rr =>
      cases rr
      obtain ⟨t, rfl⟩ := r
      obtain ⟨t', rfl⟩ := r'
      exact call_range_2 (range_it I1 q1 q2 q3 q4 q)

/-! ### for -/
/-- W: the invariant by the turn and a measure; N: what the body is to reach -/
def tFor (wi : TI) (g : TG) (tb : TS) : TS := fun D σ H => wi σ H fun J H1 => ∃ W : Nat → Nat → St → Hp → Prop, (∃ m, W 0 m σ H1) ∧ ∀ i m σ H, W i m σ H →
  (J.stop i H ∧ D.nx σ H) ∨ (J.go i H ∧ ∃ N : St → Hp → Prop, (∀ σ' H', N σ' H' → ∃ m', m' < m ∧ W (i + 1) m' σ' H') ∧ ∀ x H', J.yld i H x H' → g x σ H' fun σ2 H2 => tb { D with nx := N, ct := N, bk := D.nx } σ2 H2)
/-- the records at fp as they stand -/
def pinsAt (fp : List Addr) (h : Heap) : List (Addr × Obj) := fp.filterMap fun b => (h.get? b).map fun o => (b, o)
theorem mem_pinsAt {fp : List Addr} {h : Heap} {b : Addr} {o : Obj} (hb : b ∈ fp) (e : h.get? b = some o) : (b, o) ∈ pinsAt fp h := List.mem_filterMap.mpr ⟨b, hb, by rw [e]; rfl⟩
theorem of_pinsAt {fp : List Addr} {h : Heap} {p : Addr × Obj} (hp : p ∈ pinsAt fp h) : p.1 ∈ fp ∧ h.get? p.1 = some p.2 := by
  obtain ⟨b, hb, e⟩ := List.mem_filterMap.mp hp
  cases q : h.get? b with
  | none => rw [q] at e; cases e
  | some o =>
    rw [q] at e
    have e' : (b, o) = p := Option.some.inj e
    subst e'
    exact ⟨hb, q⟩
theorem Inv.pinned {pins : List (Addr × Obj)} {σ : St} {H : Hp} {s : Shared} {fp : List Addr} (I : Inv X pins σ H s) (hf : ∀ b ∈ fp, FpOk X pins H b) (ho : ∀ b ∈ fp, ∃ o, s.heap.get? b = some o ∧ ∀ v, o.data ≠ .cell v) : Inv X (pins ++ pinsAt fp s.heap) σ H s :=
  I.pins_of fun p hp => (List.mem_append.mp hp).elim (fun z => I.pin p (List.mem_append_right _ z)) fun z => by
    obtain ⟨hb, e⟩ := of_pinsAt z
    obtain ⟨f0, f1, f2, _⟩ := hf p.1 hb
    obtain ⟨o, e', d⟩ := ho p.1 hb
    rw [e] at e'; cases e'
    exact ⟨e, f0, f1, f2, d⟩
theorem Inv.unpinned {pins pl : List (Addr × Obj)} {σ : St} {H : Hp} {s : Shared} (I : Inv X (pins ++ pl) σ H s) : Inv X pins σ H s := I.pins_of fun p hp => I.pin p (List.mem_append_right _ (List.mem_append_left _ hp))
theorem ps_for {iter : Expr} {body : List Stmt} {wi : TI} {g : TG} {tb : TS} {pos : Pos} (hp : PassesOwn (model X.prog X.w) X.A X.env X.xe) (hc : X.calm = true) (hi : PI X tg iter wi) (hg : PG X tg g) (hb : PSs X body tb)
    (hs : ∀ x, foldedSetIterable iter X.env x = pure x := by intro _; rfl) : PS X (.For tg iter body [] pos) (tFor wi g tb) := by
  intro pins s σ H D I h
  refine wpAny_For (thn (hi pins s σ H _ I h) fun v s1 h1 => thn h1 fun itv s2 h2 => ?_) hs
  obtain ⟨it, fp, tn, J, H2, e, I2, T, st2, f2, W, ⟨m0, w0⟩, turn⟩ := h2
  subst e
  -- what stays true of the iterator's objects through the loop
  have stat : ∀ {H' : Hp}, (∀ b ∈ fp, H' b = none) → ∀ b ∈ fp, FpOk X pins H' b := fun hn b hb => ⟨hn b hb, (f2 b hb).2⟩
  refine codeAny_forLoop_any (fun n s' => ∃ i σ' H', Inv X pins σ' H' s' ∧ tn i s'.heap ∧ (∀ b ∈ fp, H' b = none) ∧ W i n σ' H') ?_ m0 ⟨0, σ, H2, I2, st2, fun b hb => (f2 b hb).1, w0⟩
  rintro n s3 ⟨i, σ3, H3, I3, st3, fr3, w3⟩
  rcases turn i n σ3 H3 w3 with ⟨stop, qn⟩ | ⟨go, N, hN, step⟩
  · refine wpAny_passesOwn hp (thn (T.done X rfl rfl rfl hc i pins s3 σ3 H3 X.xe I3 (stat fr3) st3 stop) fun r s4 ⟨hr, I4⟩ => ?_)
    subst hr
    exact wpAny_execs_nil ⟨σ3, H3, I4, qn⟩
  · refine wpAny_passesOwn hp (thn (T.item X rfl rfl rfl hc i pins s3 σ3 H3 X.xe I3 (stat fr3) st3 go) fun r s4 ⟨u, hr, h4⟩ => ?_)
    subst hr
    refine wpAny_passesOwn hp (thn h4 fun _ s5 ⟨x, H5, I5, r5, y5, st5, fr5⟩ => ?_)
    have I5' := I5.pinned (stat fr5) (T.obj _ _ st5)
    refine wpAny_passesOwn hp (thn (hg _ s5 σ3 H5 x u _ I5' r5 (step x H5 y5)) fun _ s6 ⟨σ6, H6, I6, q6⟩ => ?_)
    refine wpAny_passesOwn hp (thn (hb _ s6 σ6 H6 _ I6 q6) fun f s7 q7 => ?_)
    have again : ∀ {σ7 : St} {H7 : Hp}, Inv X (pins ++ pinsAt fp s5.heap) σ7 H7 s7 → N σ7 H7 → ∃ m, m < n ∧ ∃ i σ' H', Inv X pins σ' H' s7 ∧ tn i s7.heap ∧ (∀ b ∈ fp, H' b = none) ∧ W i m σ' H' := fun {σ7 H7} I7 n7 => by
      obtain ⟨m', hm, w7⟩ := hN σ7 H7 n7
      refine ⟨m', hm, i + 1, σ7, H7, I7.unpinned, T.keep _ _ _ st5 fun b hb o e => (I7.pin (b, o) (List.mem_append_right _ (List.mem_append_right _ (mem_pinsAt hb e)))).1, fun b hb => ?_, w7⟩
      obtain ⟨o, e, d⟩ := T.obj _ _ st5 b hb
      exact (I7.pin (b, o) (List.mem_append_right _ (List.mem_append_right _ (mem_pinsAt hb e)))).2.1
    cases f with
    | next => obtain ⟨σ7, H7, I7, n7⟩ := q7; exact again I7 n7
    | cont => obtain ⟨σ7, H7, I7, n7⟩ := q7; exact again I7 n7
    | brk => obtain ⟨σ7, H7, I7, q7⟩ := q7; exact ⟨σ7, H7, I7.unpinned, q7⟩
    | ret v => obtain ⟨x7, σ7, H7, I7, r7, q7⟩ := q7; exact ⟨x7, σ7, H7, I7.unpinned, r7, q7⟩
end

/-! ### the forms one uses -/
/-- over a list that the body leaves as it is -/
theorem for_list {K : PySem.W.Frag} {a : Addr} {xs : List V} {g : TG} {tb : TS} {D : Ends} {σ : St} {H : Hp} (Pv : Nat → St → Hp → Prop) (h0 : Pv 0 σ H) (hl : ∀ i σ H, i ≤ xs.length → Pv i σ H → SqL K H a xs)
    (hs : ∀ i x σ H, xs[i]? = some x → Pv i σ H → g x σ H fun σ2 H2 => tb { D with nx := Pv (i + 1), ct := Pv (i + 1), bk := D.nx } σ2 H2) (hd : ∀ σ H, Pv xs.length σ H → D.nx σ H) :
    ∃ W : Nat → Nat → St → Hp → Prop, (∃ m, W 0 m σ H) ∧ ∀ i m σ H, W i m σ H →
      ((Itl K a).stop i H ∧ D.nx σ H) ∨ ((Itl K a).go i H ∧ ∃ N : St → Hp → Prop, (∀ σ' H', N σ' H' → ∃ m', m' < m ∧ W (i + 1) m' σ' H') ∧ ∀ x H', (Itl K a).yld i H x H' → g x σ H' fun σ2 H2 => tb { D with nx := N, ct := N, bk := D.nx } σ2 H2) := by
  refine ⟨fun i m σ H => m = xs.length - i ∧ i ≤ xs.length ∧ Pv i σ H, ⟨xs.length, by simp, Nat.zero_le _, h0⟩, ?_⟩
  rintro i m σ H ⟨rfl, hi, p⟩
  have q := hl i σ H hi p
  by_cases hlt : i < xs.length
  · refine .inr ⟨⟨xs, xs[i], q, by simp [hlt]⟩, Pv (i + 1), fun σ' H' p' => ⟨xs.length - (i + 1), by omega, rfl, hlt, p'⟩, fun x H' y => ?_⟩
    obtain ⟨e, y⟩ := y
    subst e
    exact hs i x σ _ (y xs q) p
  · have e : i = xs.length := by omega
    subst e
    exact .inl ⟨⟨xs, q, Nat.le_refl _⟩, hd σ H p⟩
theorem for_tup {K : PySem.W.Frag} {a : Addr} {xs : List V} {g : TG} {tb : TS} {D : Ends} {σ : St} {H : Hp} (Pv : Nat → St → Hp → Prop) (h0 : Pv 0 σ H) (hl : ∀ i σ H, i ≤ xs.length → Pv i σ H → SqT K H a xs)
    (hs : ∀ i x σ H, xs[i]? = some x → Pv i σ H → g x σ H fun σ2 H2 => tb { D with nx := Pv (i + 1), ct := Pv (i + 1), bk := D.nx } σ2 H2) (hd : ∀ σ H, Pv xs.length σ H → D.nx σ H) :
    ∃ W : Nat → Nat → St → Hp → Prop, (∃ m, W 0 m σ H) ∧ ∀ i m σ H, W i m σ H →
      ((Itt K a).stop i H ∧ D.nx σ H) ∨ ((Itt K a).go i H ∧ ∃ N : St → Hp → Prop, (∀ σ' H', N σ' H' → ∃ m', m' < m ∧ W (i + 1) m' σ' H') ∧ ∀ x H', (Itt K a).yld i H x H' → g x σ H' fun σ2 H2 => tb { D with nx := N, ct := N, bk := D.nx } σ2 H2) := by
  refine ⟨fun i m σ H => m = xs.length - i ∧ i ≤ xs.length ∧ Pv i σ H, ⟨xs.length, by simp, Nat.zero_le _, h0⟩, ?_⟩
  rintro i m σ H ⟨rfl, hi, p⟩
  have q := hl i σ H hi p
  by_cases hlt : i < xs.length
  · refine .inr ⟨⟨xs, xs[i], q, by simp [hlt]⟩, Pv (i + 1), fun σ' H' p' => ⟨xs.length - (i + 1), by omega, rfl, hlt, p'⟩, fun x H' y => ?_⟩
    obtain ⟨e, y⟩ := y
    subst e
    exact hs i x σ _ (y xs q) p
  · have e : i = xs.length := by omega
    subst e
    exact .inl ⟨⟨xs, q, Nat.le_refl _⟩, hd σ H p⟩
theorem for_range {lo : Int} {n : Nat} {g : TG} {tb : TS} {D : Ends} {σ : St} {H : Hp} (Pv : Nat → St → Hp → Prop) (h0 : Pv 0 σ H)
    (hs : ∀ i σ H, i < n → Pv i σ H → g (.int (lo + i)) σ H fun σ2 H2 => tb { D with nx := Pv (i + 1), ct := Pv (i + 1), bk := D.nx } σ2 H2) (hd : ∀ σ H, Pv n σ H → D.nx σ H) :
    ∃ W : Nat → Nat → St → Hp → Prop, (∃ m, W 0 m σ H) ∧ ∀ i m σ H, W i m σ H →
      ((Itr lo n).stop i H ∧ D.nx σ H) ∨ ((Itr lo n).go i H ∧ ∃ N : St → Hp → Prop, (∀ σ' H', N σ' H' → ∃ m', m' < m ∧ W (i + 1) m' σ' H') ∧ ∀ x H', (Itr lo n).yld i H x H' → g x σ H' fun σ2 H2 => tb { D with nx := N, ct := N, bk := D.nx } σ2 H2) := by
  refine ⟨fun i m σ H => m = n - i ∧ i ≤ n ∧ Pv i σ H, ⟨n, by simp, Nat.zero_le _, h0⟩, ?_⟩
  rintro i m σ H ⟨rfl, hi, p⟩
  by_cases hlt : i < n
  · refine .inr ⟨hlt, Pv (i + 1), fun σ' H' p' => ⟨n - (i + 1), by omega, rfl, hlt, p'⟩, fun x H' y => ?_⟩
    obtain ⟨e, y⟩ := y
    subst e y
    exact hs i σ _ hlt p
  · have e : i = n := by omega
    subst e
    exact .inl ⟨Nat.le_refl _, hd σ H p⟩
/-- while, by a word and a measure of the state -/
theorem while_by {c : TT} {tb : TS} {D : Ends} {σ : St} {H : Hp} (Pv : St → Hp → Prop) (μ : St → Hp → Nat) (h0 : Pv σ H)
    (hs : ∀ σ H, Pv σ H → c σ H fun b H1 => if b = true then tb { D with nx := fun σ' H' => Pv σ' H' ∧ μ σ' H' < μ σ H, ct := fun σ' H' => Pv σ' H' ∧ μ σ' H' < μ σ H, bk := D.nx } σ H1 else D.nx σ H1)
    (mono : ∀ σ H Q Q', (∀ b H1, Q b H1 → Q' b H1) → c σ H Q → c σ H Q') : tWhile c tb D σ H := by
  refine ⟨fun m σ H => m = μ σ H ∧ Pv σ H, ⟨_, rfl, h0⟩, ?_⟩
  rintro m σ H ⟨rfl, p⟩
  refine mono σ H _ _ (fun b H1 q => ?_) (hs σ H p)
  cases b with
  | true => exact ⟨_, fun σ' H' ⟨p', l⟩ => ⟨_, l, rfl, p'⟩, q⟩
  | false => exact q
end L2

namespace L2
open PySem PySem.Spec PyProof.Rows

abbrev R2 := V → V → Hp → VK → Prop
/-- a two-place operation on values: f is binaryOp op, inplaceOp op or compareOp op -/
def OpR (X : Cx) (f : Value → Value → Sem Value) (r : R2) : Prop :=
  ∀ (pins : List (Addr × Obj)) (s : Shared) (σ : St) (H : Hp) (x y : V) (v u : Value) (Q : VK), Inv X pins σ H s → RelV x v → RelV y u → r x y H Q →
    wpAny (model X.prog X.w) X.A (f v u) (EP X pins σ Q) X.xe s
/-- a one-place operation -/
def UnR (X : Cx) (f : Value → Sem Value) (r : V → Hp → VK → Prop) : Prop :=
  ∀ (pins : List (Addr × Obj)) (s : Shared) (σ : St) (H : Hp) (x : V) (v : Value) (Q : VK), Inv X pins σ H s → RelV x v → r x H Q →
    wpAny (model X.prog X.w) X.A (f v) (EP X pins σ Q) X.xe s
/-- a call of a value that is known (a builtin, a type) with values -/
def CallR (X : Cx) (f : Value) (r : List V → Hp → VK → Prop) : Prop :=
  ∀ (pins : List (Addr × Obj)) (s : Shared) (σ : St) (H : Hp) (xs : List V) (us : List Value) (Q : VK), Inv X pins σ H s → Vals xs us → r xs H Q →
    wpAny (model X.prog X.w) X.A (call f us) (EP X pins σ Q) X.xe s
/-- a value's truth -/
def TruR (X : Cx) (r : V → Hp → (Bool → Hp → Prop) → Prop) : Prop :=
  ∀ (pins : List (Addr × Obj)) (s : Shared) (σ : St) (H : Hp) (x : V) (v : Value) (Q : Bool → Hp → Prop), Inv X pins σ H s → RelV x v → r x H Q →
    wpAny (model X.prog X.w) X.A (truthy v) (TP X pins σ Q) X.xe s

def tOp (r : R2) (ta tb : TE) : TE := fun σ H Q => ta σ H fun x H1 => tb σ H1 fun y H2 => r x y H2 Q
def tUn (r : V → Hp → VK → Prop) (ta : TE) : TE := fun σ H Q => ta σ H fun x H1 => r x H1 Q
/-- ints in, under C, and a value out -/
def rI (C : Int → Int → Prop) (g : Int → Int → V) : R2 := fun x y H Q => ∃ i j, x = .int i ∧ y = .int j ∧ C i j ∧ Q (g i j) H
def rI0 (g : Int → Int → V) : R2 := fun x y H Q => ∃ i j, x = .int i ∧ y = .int j ∧ Q (g i j) H
def rU (g : Int → V) : V → Hp → VK → Prop := fun x H Q => ∃ i, x = .int i ∧ Q (g i) H

section
variable {X : Cx} {a b c : Expr} {ta tb tc : TE} {pos : Pos}

theorem binT (ha : PE X a ta) (hb : PE X b tb) {pins : List (Addr × Obj)} {s : Shared} {σ : St} {H : Hp} {R : V → V → Hp → Prop} (I : Inv X pins σ H s)
    (h : ta σ H fun x H1 => tb σ H1 fun y H2 => R x y H2) {Q : Value → Shared → Prop} {f : Value → Value → Sem Value}
    (hf : ∀ v u s2 x y H2, Inv X pins σ H2 s2 → RelV x v → RelV y u → R x y H2 → wpAny (model X.prog X.w) X.A (f v u) Q X.xe s2) :
    wpAny (model X.prog X.w) X.A (eval a X.env) (fun v s₁ => wpAny (model X.prog X.w) X.A (eval b X.env) (fun u s₂ => wpAny (model X.prog X.w) X.A (f v u) Q X.xe s₂) X.xe s₁) X.xe s := by
  refine thn (ha pins s σ H _ I h) fun v s1 ⟨x, H1, I1, r1, q1⟩ => ?_
  refine thn (hb pins s1 σ H1 _ I1 q1) fun u s2 ⟨y, H2, I2, r2, q2⟩ => ?_
  exact hf v u s2 x y H2 I2 r1 r2 q2

theorem pe_op {op : Operator} {r : R2} (ho : OpR X (binaryOp op) r) (ha : PE X a ta) (hb : PE X b tb) : PE X (.BinOp a op b pos) (tOp r ta tb) := by
  intro pins s σ H Q I h
  exact wpAny_BinOp (binT ha hb I h fun v u s2 x y H2 I2 rx ry q => ho pins s2 σ H2 x y v u Q I2 rx ry q)
theorem pe_un {op : UnaryOp} {r : V → Hp → VK → Prop} (ho : UnR X (unaryOp op) r) (ha : PE X a ta) : PE X (.UnaryOp op a pos) (tUn r ta) := by
  intro pins s σ H Q I h
  exact UnaryOp_ (thn (ha pins s σ H _ I h) fun v s1 ⟨x, H1, I1, r1, q1⟩ => ho pins s1 σ H1 x v Q I1 r1 q1)
/-- a op= e at a name: the name's slot i -/
theorem augR {op : Operator} {r : R2} (ho : OpR X (inplaceOp op) r) {pins : List (Addr × Obj)} {s : Shared} {σ : St} {H : Hp} {x y : V} {v u : Value} {Q : VK} (I : Inv X pins σ H s)
    (rx : RelV x v) (ry : RelV y u) (q : r x y H Q) : wpAny (model X.prog X.w) X.A (inplaceOp op v u) (EP X pins σ Q) X.xe s := ho pins s σ H x y v u Q I rx ry q

/-! ### ints -/
theorem opI {f : Value → Value → Sem Value} {C : Int → Int → Prop} {g : Int → Int → Int}
    (rule : ∀ (i j : Int) (t u : Tok) (s : Shared) (Q : Value → Shared → Prop) (E : Value → Shared → Prop), C i j → Q (.int (g i j) s.toks) { s with toks := s.toks + 1 } → wpAny (model X.prog X.w) X.A (f (.int i t) (.int j u)) Q E s) :
    OpR X f (rI C fun i j => .int (g i j)) := by
  intro pins s σ H x y v u Q I rx ry h
  obtain ⟨i, j, rfl, rfl, hc, q⟩ := h
  obtain ⟨t, rfl⟩ := rx
  obtain ⟨t', rfl⟩ := ry
  exact rule i j t t' s _ _ hc ⟨.int (g i j), H, I.tok _, ⟨_, rfl⟩, q⟩
theorem opI0 {f : Value → Value → Sem Value} {g : Int → Int → Int}
    (rule : ∀ (i j : Int) (t u : Tok) (s : Shared) (Q : Value → Shared → Prop) (E : Value → Shared → Prop), Q (.int (g i j) s.toks) { s with toks := s.toks + 1 } → wpAny (model X.prog X.w) X.A (f (.int i t) (.int j u)) Q E s) :
    OpR X f (rI0 fun i j => .int (g i j)) := by
  intro pins s σ H x y v u Q I rx ry h
  obtain ⟨i, j, rfl, rfl, q⟩ := h
  obtain ⟨t, rfl⟩ := rx
  obtain ⟨t', rfl⟩ := ry
  exact rule i j t t' s _ _ ⟨.int (g i j), H, I.tok _, ⟨_, rfl⟩, q⟩
theorem opB0 {f : Value → Value → Sem Value} {g : Int → Int → Bool}
    (rule : ∀ (i j : Int) (t u : Tok) (s : Shared) (Q : Value → Shared → Prop) (E : Value → Shared → Prop), Q (.bool (g i j)) s → wpAny (model X.prog X.w) X.A (f (.int i t) (.int j u)) Q E s) :
    OpR X f (rI0 fun i j => .bl (g i j)) := by
  intro pins s σ H x y v u Q I rx ry h
  obtain ⟨i, j, rfl, rfl, q⟩ := h
  obtain ⟨t, rfl⟩ := rx
  obtain ⟨t', rfl⟩ := ry
  exact rule i j t t' s _ _ ⟨.bl (g i j), H, I, rfl, q⟩

def CDiv (i j : Int) : Prop := 0 < j ∧ j < 1073741824
def CDivN (i j : Int) : Prop := j ≠ 0 ∧ j.natAbs < 1073741824
def CPow (i j : Int) : Prop := 0 ≤ j ∧ j ≤ 1000000 ∧ i.natAbs < 2 ^ 64
def CMul (i j : Int) : Prop := (-(2 ^ 64) < i ∧ i < 2 ^ 64) ∨ (-(2 ^ 64) < j ∧ j < 2 ^ 64)
theorem CMul.ok {i j : Int} (h : CMul i j) : IntMulOk i j := by
  rcases h with ⟨h1, h2⟩ | ⟨h1, h2⟩
  · exact .of_left (intBits_le_64 h1 h2)
  · exact .of_right (intBits_le_64 h1 h2)
theorem two_pow_nn (k : Nat) : (0 : Int) ≤ 2 ^ k := by
  rw [two_pow_cast]
  exact Int.natCast_nonneg _

theorem op_add : OpR X (binaryOp .Add) (rI0 fun i j => .int (i + j)) := opI0 fun _ _ _ _ _ _ _ q => add_int q
theorem op_sub : OpR X (binaryOp .Sub) (rI0 fun i j => .int (i - j)) := opI0 fun _ _ _ _ _ _ _ q => sub_int q
theorem op_mul : OpR X (binaryOp .Mult) (rI CMul fun i j => .int (i * j)) := opI fun _ _ _ _ _ _ _ hc q => mul_int q hc.ok
/-- // by a positive divisor -/
theorem op_fdiv : OpR X (binaryOp .FloorDiv) (rI CDiv fun i j => .int (i / j)) := opI fun i j _ _ _ _ _ hc q => by
  have h1 : (0 : Int) < j := hc.1
  have h2 : j < 1073741824 := hc.2
  exact floordiv_int (by omega) (by rw [Int.fdiv_eq_ediv_of_nonneg i (by omega)]; exact q) (.inl (PyProof.noPylong_small (by omega)))
theorem op_fdivN : OpR X (binaryOp .FloorDiv) (rI CDivN fun i j => .int (i.fdiv j)) := opI fun _ _ _ _ _ _ _ hc q => floordiv_int hc.1 q (.inl (PyProof.noPylong_small hc.2))
/-- % by a positive divisor of any size -/
theorem op_mod : OpR X (binaryOp .Mod) (rI (fun _ j => 0 < j) fun i j => .int (i % j)) := opI fun i j _ _ _ _ _ hc q => by
  have h1 : (0 : Int) < j := hc
  exact mod_int' (by omega) (by rw [Int.fmod_eq_emod_of_nonneg i (by omega)]; exact q)
theorem op_modN : OpR X (binaryOp .Mod) (rI (fun _ j => j ≠ 0) fun i j => .int (i.fmod j)) := opI fun _ _ _ _ _ _ _ hc q => mod_int' hc q
theorem op_pow : OpR X (binaryOp .Pow) (rI CPow fun i j => .int (i ^ j.toNat)) := opI fun _ _ _ _ _ _ _ hc q => pow_int_small hc.1 hc.2.1 hc.2.2 q
theorem op_shl : OpR X (binaryOp .LShift) (rI CPow fun i j => .int (i * 2 ^ j.toNat)) := opI fun _ _ _ _ _ _ _ hc q => lshift_int_small hc.1 hc.2.1 hc.2.2 q
theorem op_shr : OpR X (binaryOp .RShift) (rI (fun _ j => 0 ≤ j) fun i j => .int (i / 2 ^ j.toNat)) := opI fun i j _ _ _ _ _ hc q =>
  rshift_int hc (by rw [Int.fdiv_eq_ediv_of_nonneg i (two_pow_nn _)]; exact q)
theorem op_and : OpR X (binaryOp .BitAnd) (rI0 fun i j => .int (Builtin.bitAnd i j)) := opI0 fun _ _ _ _ _ _ _ q => and_int q
theorem op_or : OpR X (binaryOp .BitOr) (rI0 fun i j => .int (Builtin.bitOr i j)) := opI0 fun _ _ _ _ _ _ _ q => or_int q
theorem op_xor : OpR X (binaryOp .BitXor) (rI0 fun i j => .int (Builtin.bitXor i j)) := opI0 fun _ _ _ _ _ _ _ q => xor_int q

theorem iop_add : OpR X (inplaceOp .Add) (rI0 fun i j => .int (i + j)) := opI0 fun _ _ _ _ _ _ _ q => iadd_int q
theorem iop_sub : OpR X (inplaceOp .Sub) (rI0 fun i j => .int (i - j)) := opI0 fun _ _ _ _ _ _ _ q => isub_int q
theorem iop_mul : OpR X (inplaceOp .Mult) (rI CMul fun i j => .int (i * j)) := opI fun _ _ _ _ _ _ _ hc q => imul_int q hc.ok
theorem iop_fdiv : OpR X (inplaceOp .FloorDiv) (rI CDiv fun i j => .int (i / j)) := opI fun i j _ _ _ _ _ hc q => by
  have h1 : (0 : Int) < j := hc.1
  have h2 : j < 1073741824 := hc.2
  exact ifloordiv_int (by omega) (by rw [Int.fdiv_eq_ediv_of_nonneg i (by omega)]; exact q) (.inl (PyProof.noPylong_small (by omega)))
theorem iop_mod : OpR X (inplaceOp .Mod) (rI (fun _ j => 0 < j) fun i j => .int (i % j)) := opI fun i j _ _ _ _ _ hc q => by
  have h1 : (0 : Int) < j := hc
  exact imod_int (by omega) (by rw [Int.fmod_eq_emod_of_nonneg i (by omega)]; exact q)
theorem iop_shl : OpR X (inplaceOp .LShift) (rI CPow fun i j => .int (i * 2 ^ j.toNat)) := opI fun _ _ _ _ _ _ _ hc q => ilshift_int_small hc.1 hc.2.1 hc.2.2 q
theorem iop_shr : OpR X (inplaceOp .RShift) (rI (fun _ j => 0 ≤ j) fun i j => .int (i / 2 ^ j.toNat)) := opI fun i j _ _ _ _ _ hc q =>
  irshift_int hc (by rw [Int.fdiv_eq_ediv_of_nonneg i (two_pow_nn _)]; exact q)
theorem iop_and : OpR X (inplaceOp .BitAnd) (rI0 fun i j => .int (Builtin.bitAnd i j)) := opI0 fun _ _ _ _ _ _ _ q => iand_int q
theorem iop_or : OpR X (inplaceOp .BitOr) (rI0 fun i j => .int (Builtin.bitOr i j)) := opI0 fun _ _ _ _ _ _ _ q => ior_int q
theorem iop_xor : OpR X (inplaceOp .BitXor) (rI0 fun i j => .int (Builtin.bitXor i j)) := opI0 fun _ _ _ _ _ _ _ q => ixor_int q

theorem unI {f : Value → Sem Value} {g : Int → Int}
    (rule : ∀ (i : Int) (t : Tok) (s : Shared) (Q : Value → Shared → Prop) (E : Value → Shared → Prop), Q (.int (g i) s.toks) { s with toks := s.toks + 1 } → wpAny (model X.prog X.w) X.A (f (.int i t)) Q E s) :
    UnR X f (rU fun i => .int (g i)) := by
  intro pins s σ H x v Q I rx h
  obtain ⟨i, rfl, q⟩ := h
  obtain ⟨t, rfl⟩ := rx
  exact rule i t s _ _ ⟨.int (g i), H, I.tok _, ⟨_, rfl⟩, q⟩
theorem un_neg : UnR X (unaryOp .USub) (rU fun i => .int (-i)) := unI fun _ _ _ _ _ q => neg_int q
theorem un_inv : UnR X (unaryOp .Invert) (rU fun i => .int (Builtin.bitNot i)) := unI fun _ _ _ _ _ q => invert_int q

/-! ### bools among ints: n += (a < b) -/
theorem op_add_ib : OpR X (binaryOp .Add) (fun x y H Q => ∃ i k, x = .int i ∧ y = .bl k ∧ Q (.int (i + b2i k)) H) := by
  intro pins s σ H x y v u Q I rx ry h
  obtain ⟨i, k, rfl, rfl, q⟩ := h
  obtain ⟨t, rfl⟩ := rx
  cases ry
  exact add_int_bool ⟨.int (i + b2i k), H, I.tok _, ⟨_, rfl⟩, q⟩
end

/-! ### comparisons -/
/-- the scalars that == tells apart as data does -/
def scal : V → V → Bool
  | .non, .non => true | .non, .int _ => true | .int _, .non => true | .non, .bl _ => true | .bl _, .non => true | .non, .str _ => true | .str _, .non => true
  | .int _, .int _ => true | .bl _, .bl _ => true | .str _, .str _ => true | .byt _, .byt _ => true
  | .int _, .str _ => true | .str _, .int _ => true | .bl _, .str _ => true | .str _, .bl _ => true
  | _, _ => false
def rEq : R2 := fun x y H Q => scal x y = true ∧ Q (.bl (decide (x = y))) H
def rNe : R2 := fun x y H Q => scal x y = true ∧ Q (.bl (!decide (x = y))) H

theorem dec_int {i j : Int} : decide (V.int i = V.int j) = (i == j) := by
  rw [Bool.eq_iff_iff]
  simp
theorem dec_bl {i j : Bool} : decide (V.bl i = V.bl j) = (i == j) := by
  rw [Bool.eq_iff_iff]
  simp
theorem dec_str {i j : Str} : decide (V.str i = V.str j) = (i == j) := by
  rw [Bool.eq_iff_iff]
  simp
theorem dec_byt {i j : Array UInt8} : decide (V.byt i = V.byt j) = (i.toList == j.toList) := by
  rw [Bool.eq_iff_iff]
  cases i
  cases j
  simp

section
variable {X : Cx} {a b c : Expr} {ta tb tc : TE} {pos : Pos}
theorem fin_bl {pins : List (Addr × Obj)} {σ : St} {H : Hp} {s : Shared} {Q : VK} {k k' : Bool} (I : Inv X pins σ H s) (q : Q (.bl k) H) (e : k = k') : EP X pins σ Q (.bool k') s := by
  subst e
  exact ⟨.bl k, H, I, rfl, q⟩
theorem op_eq : OpR X (compareOp .Eq) rEq := by
  intro pins s σ H x y v u Q I rx ry h
  obtain ⟨hs, q⟩ := h
  cases x with
  | non =>
    cases rx
    cases y with
    | non => cases ry; exact PySem.EqNone.eq_none_none (fin_bl I q (by simp))
    | bl j => cases ry; exact PySem.EqNone.eq_none_bool (fin_bl I q (by simp))
    | int j => obtain ⟨t', rfl⟩ := ry; exact PySem.EqNone.eq_none_int (fin_bl I q (by simp))
    | str j => obtain ⟨t', rfl⟩ := ry; exact PySem.EqNone.eq_none_str (fin_bl I q (by simp))
    | _ => exact absurd (show false = true from hs) Bool.false_ne_true
  | bl i =>
    cases rx
    cases y with
    | non => cases ry; exact PySem.EqNone.eq_bool_none (fin_bl I q (by simp))
    | bl j => cases ry; exact eq_bool (fin_bl I q dec_bl)
    | str j => obtain ⟨t', rfl⟩ := ry; exact PySem.EqMixed.eq_bool_str (fin_bl I q (by simp))
    | _ => exact absurd (show false = true from hs) Bool.false_ne_true
  | int i =>
    obtain ⟨t, rfl⟩ := rx
    cases y with
    | non => cases ry; exact PySem.EqNone.eq_int_none (fin_bl I q (by simp))
    | int j => obtain ⟨t', rfl⟩ := ry; exact eq_int (fin_bl I q dec_int)
    | str j => obtain ⟨t', rfl⟩ := ry; exact PySem.EqMixed.eq_int_str (fin_bl I q (by simp))
    | _ => exact absurd (show false = true from hs) Bool.false_ne_true
  | str i =>
    obtain ⟨t, rfl⟩ := rx
    cases y with
    | non => cases ry; exact PySem.EqNone.eq_str_none (fin_bl I q (by simp))
    | bl j => cases ry; exact PySem.EqMixed.eq_str_bool (fin_bl I q (by simp))
    | int j => obtain ⟨t', rfl⟩ := ry; exact PySem.EqMixed.eq_str_int (fin_bl I q (by simp))
    | str j => obtain ⟨t', rfl⟩ := ry; exact eq_str (fin_bl I q dec_str)
    | _ => exact absurd (show false = true from hs) Bool.false_ne_true
  | byt i =>
    obtain ⟨t, rfl⟩ := rx
    cases y with
    | byt j => obtain ⟨t', rfl⟩ := ry; exact PySem.W.eq_bytes (fin_bl I q dec_byt)
    | _ => exact absurd (show false = true from hs) Bool.false_ne_true
  | _ => cases y <;> exact absurd (show false = true from hs) Bool.false_ne_true
theorem op_ne : OpR X (compareOp .NotEq) rNe := by
  intro pins s σ H x y v u Q I rx ry h
  obtain ⟨hs, q⟩ := h
  cases x with
  | non =>
    cases rx
    cases y with
    | non => cases ry; exact PySem.EqNone.ne_none_none (fin_bl I q (by simp))
    | bl j => cases ry; exact PySem.EqNone.ne_none_bool (fin_bl I q (by simp))
    | int j => obtain ⟨t', rfl⟩ := ry; exact PySem.EqNone.ne_none_int (fin_bl I q (by simp))
    | str j => obtain ⟨t', rfl⟩ := ry; exact PySem.EqNone.ne_none_str (fin_bl I q (by simp))
    | _ => exact absurd (show false = true from hs) Bool.false_ne_true
  | bl i =>
    cases rx
    cases y with
    | non => cases ry; exact PySem.EqNone.ne_bool_none (fin_bl I q (by simp))
    | bl j => cases ry; exact ne_bool (fin_bl I q (congrArg not dec_bl))
    | str j => obtain ⟨t', rfl⟩ := ry; exact PySem.EqMixed.ne_bool_str (fin_bl I q (by simp))
    | _ => exact absurd (show false = true from hs) Bool.false_ne_true
  | int i =>
    obtain ⟨t, rfl⟩ := rx
    cases y with
    | non => cases ry; exact PySem.EqNone.ne_int_none (fin_bl I q (by simp))
    | int j => obtain ⟨t', rfl⟩ := ry; exact ne_int (fin_bl I q (congrArg not dec_int))
    | str j => obtain ⟨t', rfl⟩ := ry; exact PySem.EqMixed.ne_int_str (fin_bl I q (by simp))
    | _ => exact absurd (show false = true from hs) Bool.false_ne_true
  | str i =>
    obtain ⟨t, rfl⟩ := rx
    cases y with
    | non => cases ry; exact PySem.EqNone.ne_str_none (fin_bl I q (by simp))
    | bl j => cases ry; exact PySem.EqMixed.ne_str_bool (fin_bl I q (by simp))
    | int j => obtain ⟨t', rfl⟩ := ry; exact PySem.EqMixed.ne_str_int (fin_bl I q (by simp))
    | str j => obtain ⟨t', rfl⟩ := ry; exact ne_str (fin_bl I q (congrArg not dec_str))
    | _ => exact absurd (show false = true from hs) Bool.false_ne_true
  | byt i =>
    obtain ⟨t, rfl⟩ := rx
    cases y with
    | byt j => obtain ⟨t', rfl⟩ := ry; exact PySem.W.ne_bytes (fin_bl I q (congrArg not dec_byt))
    | _ => exact absurd (show false = true from hs) Bool.false_ne_true
  | _ => cases y <;> exact absurd (show false = true from hs) Bool.false_ne_true

theorem op_lt : OpR X (compareOp .Lt) (rI0 fun i j => .bl (decide (i < j))) := opB0 fun _ _ _ _ _ _ _ q => lt_int q
theorem op_le : OpR X (compareOp .LtE) (rI0 fun i j => .bl (decide (i ≤ j))) := opB0 fun _ _ _ _ _ _ _ q => le_int q
theorem op_gt : OpR X (compareOp .Gt) (rI0 fun i j => .bl (decide (j < i))) := opB0 fun _ _ _ _ _ _ _ q => gt_int q
theorem op_ge : OpR X (compareOp .GtE) (rI0 fun i j => .bl (decide (j ≤ i))) := opB0 fun _ _ _ _ _ _ _ q => ge_int q
theorem op_lt_str : OpR X (compareOp .Lt) (fun x y H Q => ∃ i j, x = .str i ∧ y = .str j ∧ Q (.bl (decide (i.cps.toList < j.cps.toList))) H) := by
  intro pins s σ H x y v u Q I rx ry h
  obtain ⟨i, j, rfl, rfl, q⟩ := h
  obtain ⟨t, rfl⟩ := rx
  obtain ⟨t', rfl⟩ := ry
  exact lt_str (fin_bl I q rfl)
/-- the one string within the other -/
theorem op_in_str : OpR X (compareOp .In) (fun x y H Q => ∃ i j, x = .str i ∧ y = .str j ∧ Q (.bl (!(Builtin.Str.occurrences j i 0 j.length 1).isEmpty)) H) := by
  intro pins s σ H x y v u Q I rx ry h
  obtain ⟨i, j, rfl, rfl, q⟩ := h
  obtain ⟨t, rfl⟩ := rx
  obtain ⟨t', rfl⟩ := ry
  exact in_str (fin_bl I q rfl)

/-- is None, is not None: the right side a value none -/
theorem op_isN : OpR X (compareOp .Is) (fun x y H Q => y = .non ∧ Q (.bl (decide (x = .non))) H) := by
  intro pins s σ H x y v u Q I rx ry h
  obtain ⟨rfl, q⟩ := h
  cases ry
  refine is_none_gen (fin_bl I q ?_)
  cases x <;> first
    | (cases rx; rfl)
    | (obtain ⟨t, rfl⟩ := rx; rfl)
theorem op_notN : OpR X (compareOp .IsNot) (fun x y H Q => y = .non ∧ Q (.bl (!decide (x = .non))) H) := by
  intro pins s σ H x y v u Q I rx ry h
  obtain ⟨rfl, q⟩ := h
  cases ry
  refine isnot_none_gen (fin_bl I q ?_)
  cases x <;> first
    | (cases rx; rfl)
    | (obtain ⟨t, rfl⟩ := rx; rfl)

theorem op_notin_str : OpR X (compareOp .NotIn) (fun x y H Q => ∃ i j, x = .str i ∧ y = .str j ∧ Q (.bl (!(!(Builtin.Str.occurrences j i 0 j.length 1).isEmpty))) H) := by
  intro pins s σ H x y v u Q I rx ry h
  obtain ⟨i, j, rfl, rfl, q⟩ := h
  obtain ⟨t, rfl⟩ := rx
  obtain ⟨t', rfl⟩ := ry
  exact notIn_str (fin_bl I q rfl)
/-- is, is not of two objects that are tracked lists or instances -/
def isObj : HO → Bool
  | .lst _ => true
  | .ins _ _ _ => true
  | _ => false
theorem obj_there {pins : List (Addr × Obj)} {s : Shared} {σ : St} {H : Hp} {a : Addr} {o : HO} (I : Inv X pins σ H s) (h : H a = some o) (p : isObj o = true) : ∃ ob, s.heap.get? a = some ob ∧ ob.cls ≠ .type "tuple" := by
  cases o with
  | lst xs =>
    obtain ⟨_, its, n, _, e⟩ : xs.length ≤ sizeLine ∧ ∃ (its : List Value) (n : Nat), Vals xs its ∧ s.heap.get? a = some { cls := .type "list", data := .seq its.toArray n } := I.hok a _ h
    exact ⟨_, e, (by show Value.type "list" ≠ .type "tuple"; decide +kernel)⟩
  | ins C dx fs =>
    have x := I.hok a _ h
    obtain ⟨_, _, _, e, _⟩ := x
    exact ⟨_, e, (by show Value.ref C ≠ .type "tuple"; exact fun z => by cases z)⟩
  | _ => exact absurd (show false = true from p) Bool.false_ne_true
theorem op_is_ref : OpR X (compareOp .Is) (fun x y H Q => ∃ a b oa ob, x = .ref a ∧ y = .ref b ∧ H a = some oa ∧ isObj oa = true ∧ H b = some ob ∧ isObj ob = true ∧ Q (.bl (decide (a = b))) H) := by
  intro pins s σ H x y v u Q I rx ry h
  obtain ⟨a, b, oa, ob, rfl, rfl, ha, pa, hb, pb, q⟩ := h
  cases rx
  cases ry
  obtain ⟨o1, e1, n1⟩ := obj_there I ha pa
  obtain ⟨o2, e2, _⟩ := obj_there I hb pb
  by_cases z : a = b
  · subst z
    exact wpAny_is_ref_self (fin_bl I q (by simp))
  · exact wpAny_is_ref_other z e1 e2 n1 (fin_bl I q (by simp [z]))
theorem op_isnot_ref : OpR X (compareOp .IsNot) (fun x y H Q => ∃ a b oa ob, x = .ref a ∧ y = .ref b ∧ H a = some oa ∧ isObj oa = true ∧ H b = some ob ∧ isObj ob = true ∧ Q (.bl (!decide (a = b))) H) := by
  intro pins s σ H x y v u Q I rx ry h
  obtain ⟨a, b, oa, ob, rfl, rfl, ha, pa, hb, pb, q⟩ := h
  cases rx
  cases ry
  obtain ⟨o1, e1, n1⟩ := obj_there I ha pa
  obtain ⟨o2, e2, _⟩ := obj_there I hb pb
  by_cases z : a = b
  · subst z
    exact wpAny_isNot_ref_self (fin_bl I q (by simp))
  · exact wpAny_isNot_ref_other z e1 e2 n1 (fin_bl I q (by simp [z]))

/-- two rules for one operation: by cases -/
theorem OpR.or {f : Value → Value → Sem Value} {r r' : R2} (h : OpR X f r) (h' : OpR X f r') : OpR X f (fun x y H Q => r x y H Q ∨ r' x y H Q) := by
  intro pins s σ H x y v u Q I rx ry q
  rcases q with q | q
  · exact h pins s σ H x y v u Q I rx ry q
  · exact h' pins s σ H x y v u Q I rx ry q

theorem nomark (b : Expr) {op : CmpOp} (h : op ≠ .In := by decide) (h2 : op ≠ .NotIn := by decide) : behindInMarks op b = false := by
  have e1 : (op == CmpOp.In) = false := by cases op <;> first | rfl | exact absurd rfl h
  have e2 : (op == CmpOp.NotIn) = false := by cases op <;> first | rfl | exact absurd rfl h2
  cases b <;> simp [behindInMarks, e1, e2]
/-- a comparison as a value; hm: nomark b, or (for in, not in) by with_unfolding_all rfl -/
theorem pe_cmpR {op : CmpOp} {r : R2} (ho : OpR X (compareOp op) r) (ha : PE X a ta) (hb : PE X b tb) (hm : behindInMarks op b = false) : PE X (.Compare a [op] [b] pos) (tOp r ta tb) := by
  intro pins s σ H Q I h
  exact wpAny_Compare1 (binT ha hb I h fun v u s2 x y H2 I2 rx ry q => ho pins s2 σ H2 x y v u Q I2 rx ry q) hm
/-- a reading of a value as a test -/
def tTest (t : TE) : TT := fun σ H Q => t σ H fun x H' => ∃ k, x = .bl k ∧ Q k H'
theorem pt_cmpR {op : CmpOp} {r : R2} (ho : OpR X (compareOp op) r) (ha : PE X a ta) (hb : PE X b tb) (hm : behindInMarks op b = false) : PT X (.Compare a [op] [b] pos) (tTest (tOp r ta tb)) := by
  intro pins s σ H Q I h
  refine wpAny_isTrue_Compare1 (thn (ha pins s σ H _ I h) fun v s1 ⟨x, H1, I1, r1, q1⟩ => thn (hb pins s1 σ H1 _ I1 q1) fun u s2 ⟨y, H2, I2, r2, q2⟩ =>
    thn (ho pins s2 σ H2 x y v u _ I2 r1 r2 q2) fun c s3 ⟨z, H3, I3, r3, k, e, q3⟩ => ?_) hm
  subst e
  cases r3
  exact wpAny_truthy_bool ⟨H3, I3, q3⟩
/-- a op1 b op2 c -/
def tChain (r r' : R2) (ta tb tc : TE) : TE := fun σ H Q => ta σ H fun x H1 => tb σ H1 fun y H2 => r x y H2 fun z H3 => ∃ k, z = .bl k ∧
  (if k = true then tc σ H3 fun w' H4 => r' y w' H4 Q else Q (.bl false) H3)
theorem pe_chain {op op' : CmpOp} {r r' : R2} (ho : OpR X (compareOp op) r) (ho' : OpR X (compareOp op') r') (ha : PE X a ta) (hb : PE X b tb) (hc : PE X c tc)
    (hm : lastMarks [op, op'] [b, c] = false := by with_unfolding_all rfl) : PE X (.Compare a [op, op'] [b, c] pos) (tChain r r' ta tb tc) := by
  intro pins s σ H Q I h
  refine Compare_chain (thn (ha pins s σ H _ I h) fun v s1 ⟨x, H1, I1, r1, q1⟩ => chain_link (thn (hb pins s1 σ H1 _ I1 q1) fun u s2 ⟨y, H2, I2, r2, q2⟩ =>
    thn (ho pins s2 σ H2 x y v u _ I2 r1 r2 q2) fun d s3 ⟨z, H3, I3, r3, k, e, q3⟩ => ?_)) hm
  subst e
  cases r3
  refine wpAny_truthy_bool ?_
  cases k with
  | false => exact ite_ff ⟨.bl false, H3, I3, rfl, q3⟩
  | true => exact ite_tt (chain_last (thn (hc pins s3 σ H3 _ I3 q3) fun w' s4 ⟨z', H4, I4, r4, q4⟩ => ho' pins s4 σ H4 y z' u w' Q I4 r2 r4 q4))
theorem pt_chain {op op' : CmpOp} {r r' : R2} (ho : OpR X (compareOp op) r) (ho' : OpR X (compareOp op') r') (ha : PE X a ta) (hb : PE X b tb) (hc : PE X c tc)
    (hm : lastMarks [op, op'] [b, c] = false := by with_unfolding_all rfl) : PT X (.Compare a [op, op'] [b, c] pos) (tTest (tChain r r' ta tb tc)) := by
  intro pins s σ H Q I h
  refine isTrue_chain (thn (ha pins s σ H _ I h) fun v s1 ⟨x, H1, I1, r1, q1⟩ => test_link (thn (hb pins s1 σ H1 _ I1 q1) fun u s2 ⟨y, H2, I2, r2, q2⟩ =>
    thn (ho pins s2 σ H2 x y v u _ I2 r1 r2 q2) fun d s3 ⟨z, H3, I3, r3, k, e, q3⟩ => ?_)) hm
  subst e
  cases r3
  refine wpAny_truthy_bool ?_
  cases k with
  | false =>
    obtain ⟨k', e', q'⟩ := q3
    cases e'
    exact ite_ff ⟨H3, I3, q'⟩
  | true =>
    refine ite_tt (test_last (thn (hc pins s3 σ H3 _ I3 q3) fun w' s4 ⟨z', H4, I4, r4, q4⟩ => thn (ho' pins s4 σ H4 y z' u w' _ I4 r2 r4 q4) fun d' s5 ⟨z2, H5, I5, r5, k2, e2, q5⟩ => ?_))
    subst e2
    cases r5
    exact wpAny_truthy_bool ⟨H5, I5, q5⟩

/-! ### truth -/
/-- a value's truth by the abstract heap -/
def TruV (K : PySem.W.Frag) (x : V) (H : Hp) (k : Bool) : Prop :=
  match x with
  | .non => k = false
  | .bl b => k = b
  | .int i => k = (i != 0)
  | .str y => y.length ≤ sizeLine ∧ k = ((y.length : Int) != 0)
  | .byt y => y.size ≤ sizeLine ∧ k = ((y.size : Int) != 0)
  | .ref p => (∃ xs, SqL K H p xs ∧ k = !xs.isEmpty) ∨ (∃ xs, SqT K H p xs ∧ k = !xs.isEmpty) ∨ ∃ kvs, H p = some (.dK kvs) ∧ k = !kvs.isEmpty
  | _ => False
theorem isEmpty_kv {κ : Type} {kvs : List (κ × V)} {vs : List (κ × Value)} (r : KV kvs vs) : (!vs.isEmpty) = !kvs.isEmpty := by
  cases r <;> rfl
theorem isEmpty_of {xs : List V} {its : List Value} (r : Vals xs its) : (!its.toArray.isEmpty) = !xs.isEmpty := by
  cases r <;> simp
theorem line63 : (sizeLine : Nat) < 2 ^ 63 := by rw [sizeLine_eq]; decide
theorem tru_ok : TruR X (fun x H Q => ∃ k, TruV X.K x H k ∧ Q k H) := by
  intro pins s σ H x v Q I rx h
  obtain ⟨k, e, q⟩ := h
  have hl := line63
  have hs : sizeLine = 16777216 := sizeLine_eq
  cases x with
  | non =>
    cases rx
    have e' : k = false := e
    subst e'
    exact truthy_none ⟨H, I, q⟩
  | bl b =>
    cases rx
    have e' : k = b := e
    subst e'
    exact wpAny_truthy_bool ⟨H, I, q⟩
  | int i =>
    obtain ⟨t, rfl⟩ := rx
    have e' : k = (i != 0) := e
    subst e'
    exact PySem.P.truthy_int ⟨H, I, q⟩
  | str y =>
    obtain ⟨t, rfl⟩ := rx
    obtain ⟨hy, e'⟩ : y.length ≤ sizeLine ∧ k = ((y.length : Int) != 0) := e
    subst e'
    exact PySem.P.truthy_str (by omega) ⟨H, I.tok _, q⟩
  | byt y =>
    obtain ⟨t, rfl⟩ := rx
    obtain ⟨hy, e'⟩ : y.size ≤ sizeLine ∧ k = ((y.size : Int) != 0) := e
    subst e'
    exact PySem.W.truthy_bytes (by omega) ⟨H, I.tok _, q⟩
  | ref p =>
    cases rx
    have e' : (∃ xs, SqL X.K H p xs ∧ k = !xs.isEmpty) ∨ (∃ xs, SqT X.K H p xs ∧ k = !xs.isEmpty) ∨ ∃ kvs, H p = some (.dK kvs) ∧ k = !kvs.isEmpty := e
    rcases e' with ⟨xs, hx, e'⟩ | ⟨xs, hx, e'⟩ | ⟨kvs, hx, e'⟩
    · subst e'
      obtain ⟨its, r, pl, hz⟩ := I.list hx
      have hlen := r.length
      exact wpAny_truthy_list pl.isList (by simp only [List.size_toArray]; omega) ⟨H, I.tok _, by rw [isEmpty_of r]; exact q⟩
    · subst e'
      obtain ⟨its, r, pl, hz⟩ := I.tuple hx
      have hlen := r.length
      exact truthy_tuple pl (by simp only [List.size_toArray]; omega) ⟨H, I.tok _, by rw [isEmpty_of r]; exact q⟩
    · subst e'
      obtain ⟨hz, hS, vs, r, m⟩ : kvs.length ≤ sizeLine ∧ (p == sysModules) = false ∧ ∃ vs, KV kvs vs ∧ s.heap.DictOf (mixKind X.prog X.w) p vs := I.hok p _ hx
      have hlen : kvs.length = vs.length := Paired.length r
      exact wpAny_truthy_dict hS m (by omega) ⟨H, I.tok _, by rw [isEmpty_kv r]; exact q⟩
  | _ => exact (show False from e).elim
/-- any expression whose test is its value's truth (a name, a call, a subscript, a field ..: he by fun _ => rfl) -/
theorem pt_truth (ha : PE X a ta) (he : ∀ whole, isTrue a X.env whole = (do let v ← whole; standAt a.pos; holding [v] (truthy v))) :
    PT X a (fun σ H Q => ta σ H fun x H' => ∃ k, TruV X.K x H' k ∧ Q k H') := by
  intro pins s σ H Q I h
  exact isTrue_plain (thn (ha pins s σ H _ I h) fun v s1 ⟨x, H1, I1, r1, q1⟩ => tru_ok pins s1 σ H1 x v Q I1 r1 q1) (he _)

/-! ### strs and bytes -/
theorem pe_byt {x : List UInt8} {k : Nat} : PE X (.Constant (.bytes x) k pos) (fun _ H Q => Q (.byt x.toArray) H) := fun _ _ _ H _ I h => PySem.W.Constant_bytes ⟨.byt x.toArray, H, I.tok _, ⟨_, rfl⟩, h⟩
theorem op_add_str : OpR X (binaryOp .Add) (fun x y H Q => ∃ i j, x = .str i ∧ y = .str j ∧ i.length + j.length ≤ sizeLine ∧ Q (.str (i ++ j)) H) := by
  intro pins s σ H x y v u Q I rx ry h
  obtain ⟨i, j, rfl, rfl, hz, q⟩ := h
  obtain ⟨t, rfl⟩ := rx
  obtain ⟨t', rfl⟩ := ry
  exact add_str (fun t' tk => ⟨.str (i ++ j), H, I.tok _, ⟨_, rfl⟩, q⟩) hz
theorem iop_add_str : OpR X (inplaceOp .Add) (fun x y H Q => ∃ i j, x = .str i ∧ y = .str j ∧ i.length + j.length ≤ sizeLine ∧ Q (.str (i ++ j)) H) := by
  intro pins s σ H x y v u Q I rx ry h
  obtain ⟨i, j, rfl, rfl, hz, q⟩ := h
  obtain ⟨t, rfl⟩ := rx
  obtain ⟨t', rfl⟩ := ry
  exact iadd_str (fun t' tk => ⟨.str (i ++ j), H, I.tok _, ⟨_, rfl⟩, q⟩) hz
theorem op_add_byt : OpR X (binaryOp .Add) (fun x y H Q => ∃ i j, x = .byt i ∧ y = .byt j ∧ i.size + j.size ≤ 16777216 ∧ Q (.byt (i ++ j)) H) := by
  intro pins s σ H x y v u Q I rx ry h
  obtain ⟨i, j, rfl, rfl, hz, q⟩ := h
  obtain ⟨t, rfl⟩ := rx
  obtain ⟨t', rfl⟩ := ry
  exact PySem.W.KBy.add_bytes hz (fun t' tk => ⟨.byt (i ++ j), H, I.tok _, ⟨_, rfl⟩, q⟩)

def PlainIxT (b : Expr) : Prop := ∀ o i, subscripted b false o i = operate [o, i] (getItem o i)
/-- s[i], 0 ≤ i < len -/
theorem pe_item_str (ha : PE X a ta) (hb : PE X b tb) (hs : PlainIxT b) :
    PE X (.Subscript a b pos) (tOp (fun x y H Q => ∃ z i c, x = .str z ∧ y = .int i ∧ 0 ≤ i ∧ i < 2 ^ 63 ∧ i < z.length ∧ z.cps[i.toNat]? = some c ∧ Q (.str ⟨#[c]⟩) H) ta tb) := by
  intro pins s σ H Q I h
  refine Subscript_ (binT ha hb I h fun v u s2 x y H2 I2 rx ry q => ?_)
  obtain ⟨z, i, c, rfl, rfl, h0, h63, h1, hc, q⟩ := q
  obtain ⟨t, rfl⟩ := rx
  obtain ⟨t', rfl⟩ := ry
  have e : seqIndex? i z.length = some i.toNat := PySem.StrLaws.seqIndex_nonneg h0 h1
  exact tail_any (typeIs_str s2 z t) slot_str_getitem.lookup (getItem_str (c := c) (by
    have e1 : decide (i < -(2 ^ 63 : Int)) = false := decide_eq_false (by omega)
    have e2 : decide (i ≥ 2 ^ 63) = false := decide_eq_false (by omega)
    rw [e1, e2] <;> rfl) (by rw [e]; exact hc) ⟨.str ⟨#[c]⟩, H2, I2.tok _, ⟨_, rfl⟩, q⟩) (hs _ _)
/-- b[i], 0 ≤ i < len -/
theorem pe_item_byt (ha : PE X a ta) (hb : PE X b tb) (hs : PlainIxT b) :
    PE X (.Subscript a b pos) (tOp (fun x y H Q => ∃ (z : List UInt8) (i : Int), x = .byt z.toArray ∧ y = .int i ∧ z.length ≤ sizeLine ∧ 0 ≤ i ∧ i < z.length ∧ Q (.int ((z.getD i.toNat 0).toNat : Nat)) H) ta tb) := by
  intro pins s σ H Q I h
  refine Subscript_ (binT ha hb I h fun v u s2 x y H2 I2 rx ry q => ?_)
  obtain ⟨z, i, rfl, rfl, hz, h0, h1, q⟩ := q
  obtain ⟨t, rfl⟩ := rx
  obtain ⟨t', rfl⟩ := ry
  have hl : sizeLine = 16777216 := sizeLine_eq
  exact tail_any (PySem.W.typeIs_bytes s2 z.toArray t) PySem.W.FB.slot_bytes_getitem.lookup (PySem.W.getItem_bytes (by omega) h0 h1 ⟨.int ((z.getD i.toNat 0).toNat : Nat), H2, I2.tok _, ⟨_, rfl⟩, q⟩) (hs _ _)

/-! ### scalar builtins, by CallR -/
theorem vals1 {x : V} {us : List Value} (r : Vals [x] us) : ∃ u, us = [u] ∧ RelV x u := by
  cases r with
  | cons r1 r2 => cases r2; exact ⟨_, rfl, r1⟩
theorem vals2 {x y : V} {us : List Value} (r : Vals [x, y] us) : ∃ u w', us = [u, w'] ∧ RelV x u ∧ RelV y w' := by
  cases r with
  | cons r1 r2 =>
    cases r2 with
    | cons r3 r4 => cases r4; exact ⟨_, _, rfl, r1, r3⟩
theorem call_abs : CallR X (.builtin "abs") (fun xs H Q => ∃ i, xs = [.int i] ∧ Q (.int (if i < 0 then -i else i)) H) := by
  intro pins s σ H xs us Q I r h
  obtain ⟨i, rfl, q⟩ := h
  obtain ⟨u, rfl, t, rfl⟩ := vals1 r
  exact call_abs_int fun u tk => ⟨.int (if i < 0 then -i else i), H, I.tok _, ⟨_, rfl⟩, q⟩
theorem call_max2 (hc : X.calm = true) : CallR X (.builtin "max") (fun xs H Q => ∃ i j, xs = [.int i, .int j] ∧ Q (.int (if j > i then j else i)) H) := by
  intro pins s σ H xs us Q I r h
  obtain ⟨i, j, rfl, q⟩ := h
  obtain ⟨u, w', rfl, ⟨t, rfl⟩, ⟨t', rfl⟩⟩ := vals2 r
  refine max_two_ints (I.ok.hd hc) fun h' tk k => ⟨_, H, I.kept k, ?_, q⟩
  by_cases hj : j > i
  · rw [if_pos hj, if_pos hj]; exact ⟨_, rfl⟩
  · rw [if_neg hj, if_neg hj]; exact ⟨_, rfl⟩
theorem call_min2 (hc : X.calm = true) : CallR X (.builtin "min") (fun xs H Q => ∃ i j, xs = [.int i, .int j] ∧ Q (.int (if j < i then j else i)) H) := by
  intro pins s σ H xs us Q I r h
  obtain ⟨i, j, rfl, q⟩ := h
  obtain ⟨u, w', rfl, ⟨t, rfl⟩, ⟨t', rfl⟩⟩ := vals2 r
  refine min_two_ints (I.ok.hd hc) fun h' tk k => ⟨_, H, I.kept k, ?_, q⟩
  by_cases hj : j < i
  · rw [if_pos hj, if_pos hj]; exact ⟨_, rfl⟩
  · rw [if_neg hj, if_neg hj]; exact ⟨_, rfl⟩
theorem call_int1 : CallR X (.type "int") (fun xs H Q => (∃ i, xs = [.int i] ∧ Q (.int i) H) ∨ ∃ k, xs = [.bl k] ∧ Q (.int (if k then 1 else 0)) H) := by
  intro pins s σ H xs us Q I r h
  rcases h with ⟨i, rfl, q⟩ | ⟨k, rfl, q⟩
  · obtain ⟨u, rfl, t, rfl⟩ := vals1 r
    exact call_int_int ⟨.int i, H, I, ⟨_, rfl⟩, q⟩
  · obtain ⟨u, rfl, r1⟩ := vals1 r
    cases r1
    exact call_int_bool ⟨.int (if k then 1 else 0), H, I.tok _, ⟨_, rfl⟩, q⟩
theorem call_bool1 : CallR X (.type "bool") (fun xs H Q => (∃ i, xs = [.int i] ∧ Q (.bl (i != 0)) H) ∨ ∃ k, xs = [.bl k] ∧ Q (.bl k) H) := by
  intro pins s σ H xs us Q I r h
  rcases h with ⟨i, rfl, q⟩ | ⟨k, rfl, q⟩
  · obtain ⟨u, rfl, t, rfl⟩ := vals1 r
    exact call_bool_int ⟨.bl (i != 0), H, I, rfl, q⟩
  · obtain ⟨u, rfl, r1⟩ := vals1 r
    cases r1
    exact call_bool_bool ⟨.bl k, H, I, rfl, q⟩
theorem call_str_int : CallR X (.type "str") (fun xs H Q => ∃ i, xs = [.int i] ∧ i.natAbs.log2 < 1920 ∧ Q (.str (toString i)) H) := by
  intro pins s σ H xs us Q I r h
  obtain ⟨i, rfl, hz, q⟩ := h
  obtain ⟨u, rfl, t, rfl⟩ := vals1 r
  exact PySem.P.str_of_int hz ⟨.str _, H, I.tok _, ⟨_, rfl⟩, q⟩
theorem call_ord : CallR X (.builtin "ord") (fun xs H Q => ∃ x, xs = [.str x] ∧ x.length = 1 ∧ Q (.int (x.cps.getD 0 0 : Nat)) H) := by
  intro pins s σ H xs us Q I r h
  obtain ⟨x, rfl, hz, q⟩ := h
  obtain ⟨u, rfl, t, rfl⟩ := vals1 r
  exact ord_of_one hz ⟨.int _, H, I.tok _, ⟨_, rfl⟩, q⟩
theorem call_chr : CallR X (.builtin "chr") (fun xs H Q => ∃ i, xs = [.int i] ∧ 0 ≤ i ∧ i ≤ 1114111 ∧ Q (.str ⟨#[i.toNat]⟩) H) := by
  intro pins s σ H xs us Q I r h
  obtain ⟨i, rfl, h0, h1, q⟩ := h
  obtain ⟨u, rfl, t, rfl⟩ := vals1 r
  exact chr_of_range h0 h1 ⟨.str _, H, I.tok _, ⟨_, rfl⟩, q⟩
/-- len of a str, a bytes, a list, a tuple -/
def LenV (K : PySem.W.Frag) (x : V) (H : Hp) (n : Nat) : Prop :=
  match x with
  | .str y => y.length ≤ sizeLine ∧ n = y.length
  | .byt y => y.size ≤ sizeLine ∧ n = y.size
  | .ref p => (∃ xs, SqL K H p xs ∧ n = xs.length) ∨ ∃ xs, SqT K H p xs ∧ n = xs.length
  | _ => False
theorem call_len : CallR X (.builtin "len") (fun xs H Q => ∃ x n, xs = [x] ∧ LenV X.K x H n ∧ Q (.int n) H) := by
  intro pins s σ H xs us Q I r h
  obtain ⟨x, n, rfl, e, q⟩ := h
  obtain ⟨u, rfl, rx⟩ := vals1 r
  have hl := line63
  have hs : sizeLine = 16777216 := sizeLine_eq
  cases x with
  | str y =>
    obtain ⟨t, rfl⟩ := rx
    obtain ⟨hy, e'⟩ : y.length ≤ sizeLine ∧ n = y.length := e
    subst e'
    exact len_str (by omega) ⟨.int _, H, I.tok _, ⟨_, rfl⟩, q⟩
  | byt y =>
    obtain ⟨t, rfl⟩ := rx
    obtain ⟨hy, e'⟩ : y.size ≤ sizeLine ∧ n = y.size := e
    subst e'
    exact PySem.W.len_bytes (by omega) ⟨.int _, H, I.tok _, ⟨_, rfl⟩, q⟩
  | ref p =>
    cases rx
    have e' : (∃ xs, SqL X.K H p xs ∧ n = xs.length) ∨ ∃ xs, SqT X.K H p xs ∧ n = xs.length := e
    rcases e' with ⟨xs, hx, e'⟩ | ⟨xs, hx, e'⟩
    · subst e'
      obtain ⟨its, r', pl, hz⟩ := I.list hx
      have hlen := r'.length
      exact Calls.call_len_list pl.isList (by simp only [List.size_toArray]; omega) ⟨.int xs.length, H, I.tok _, ⟨_, by simp only [List.size_toArray]; rw [hlen]⟩, q⟩
    · subst e'
      obtain ⟨its, r', pl, hz⟩ := I.tuple hx
      have hlen := r'.length
      exact len_tuple pl (by simp only [List.size_toArray]; omega) ⟨.int xs.length, H, I.tok _, ⟨_, by simp only [List.size_toArray]; rw [hlen]⟩, q⟩
  | _ => exact (show False from e).elim
/-- divmod: a new tuple -/
theorem call_divmod : CallR X (.builtin "divmod") (fun xs H Q => ∃ i j, xs = [.int i, .int j] ∧ CDiv i j ∧ ∀ p, H p = none → Q (.ref p) (upd H p (.tup [.int (i / j), .int (i % j)]))) := by
  intro pins s σ H xs us Q I r h
  obtain ⟨i, j, rfl, ⟨h1, h2⟩, q⟩ := h
  obtain ⟨u, w', rfl, ⟨t, rfl⟩, ⟨t', rfl⟩⟩ := vals2 r
  refine divmod_int (by omega) ?_ (.inl (PyProof.noPylong_small (by omega)))
  rw [Int.fdiv_eq_ediv_of_nonneg i (by omega), Int.fmod_eq_emod_of_nonneg i (by omega)]
  have hn : H s.heap.objs.size = none := I.hok.fresh (Nat.le_refl _)
  refine ⟨.ref s.heap.objs.size, _, ?_, rfl, q _ hn⟩
  refine I.laid (fun b o e => Heap.get?_push_of_some _ e) (Nat.le_refl _) ⟨by simp only [List.length_cons, List.length_nil]; rw [sizeLine_eq]; decide, [.int (i / j) s.toks, .int (i % j) (s.toks + 1)], .cons ⟨_, rfl⟩ (.cons ⟨_, rfl⟩ .nil), ?_⟩
  exact ⟨_, Heap.get?_push_size s.heap rfl, rfl, 0, rfl⟩
end
end L2

namespace L2
open PySem PySem.Spec PyProof.Rows

/-! ### an instance, its attributes a map -/
structure ObjM (h : Heap) (x dx C : Addr) (mA : Str → Option Value) : Prop where
  obj : h.get? x = some (PySem.W.instObj C dx)
  ns : h.Ns1 dx mA
  ne : dx ≠ x

theorem lookIn_ns {h : Heap} {dx : Addr} {mA : Str → Option Value} (n : h.Ns1 dx mA) : ∃ od, h.get? dx = some od ∧ ∀ name, PySem.W.lookIn name od = some (mA name) := by
  obtain ⟨o, es, ep, ho, hd, hk, _, hm⟩ := n
  refine ⟨o, ho, fun name => ?_⟩
  have e := hm name
  unfold nsFind findBy at e
  rw [← Array.find?_toList] at e
  unfold PySem.W.lookIn
  rw [hd]
  dsimp only
  split
  · rename_i y q
    rw [q] at e
    exact congrArg some e
  · rename_i q
    rw [q] at e
    have a : es.toList.any (·.refKey) = false := by
      rw [List.any_eq_false]
      intro y hy
      obtain ⟨z, t, hkey⟩ := hk y (Array.mem_toList_iff.mp hy)
      simp [DictEntry.refKey, hkey]
    have a' : ¬ es.toList.any (·.refKey) = true := by rw [a]; exact Bool.false_ne_true
    rw [if_neg a']
    exact congrArg some e

theorem ObjM.look {h : Heap} {x dx C : Addr} {mA : Str → Option Value} (I : ObjM h x dx C mA) : ∃ od, PySem.W.InstAt h x (PySem.W.instObj C dx) C (some od) ∧ ∀ name, PySem.W.lookIn name od = some (mA name) :=
  let ⟨od, ho, hl⟩ := lookIn_ns I.ns
  ⟨od, ⟨I.obj, rfl, rfl, ho⟩, hl⟩

section
variable {prog : Program} {w : World} {A : Around} {E : Value → Shared → Prop} {s : Shared} {K : PySem.W.Frag} {x dx C f : Addr} {mA : Str → Option Value} {name : Str} {v : Value}

theorem get_map {expr : Bool} {Q : Value → Shared → Prop} (X : K.In s.heap) (I : ObjM s.heap x dx C mA) (hg : PySem.W.plainGet K C name = true) (hh : PySem.W.hasDictIn K C = true)
    (ha : PySem.W.findIn K (.ref C) name = some none) (hv : mA name = some v) (hv' : PySem.W.handedIn v = true) (h : Q v { s with toks := s.toks + 1 }) :
    wpAny (model prog w) A (getAttr (.ref x) name expr) Q E s := by
  obtain ⟨od, J, hl⟩ := I.look
  exact PySem.W.get_value X J (PySem.W.plainGet_of hg).1 (PySem.W.findObj_own hh ha rfl (by rw [hl, hv])) hv' h

theorem get_const {expr : Bool} {a : Value} {Q : Value → Shared → Prop} (X : K.In s.heap) (I : ObjM s.heap x dx C mA) (hg : PySem.W.plainGet K C name = true) (hh : PySem.W.hasDictIn K C = true)
    (ha : PySem.W.findIn K (.ref C) name = some (some a)) (hn : PySem.W.specialIn K a "__get__" = some none) (hc : PySem.W.copiedNames.contains name = false) (hv : mA name = none) (hv' : PySem.W.handedIn a = true)
    (h : Q a { s with toks := s.toks + 1 }) : wpAny (model prog w) A (getAttr (.ref x) name expr) Q E s := by
  obtain ⟨od, J, hl⟩ := I.look
  exact PySem.W.get_value X J (PySem.W.plainGet_of hg).1 (PySem.W.findObj_cls hh ha hn hv' hc (by rw [hl, hv])) hv' h

theorem get_meth {pl : Sem Bool} {Q : Value × List Value → Shared → Prop} (X : K.In s.heap) (I : ObjM s.heap x dx C mA) (hg : PySem.W.plainGet K C name = true)
    (hf : PySem.W.findIn K (.ref C) name = some (some (.ref f))) (ht : PySem.W.isFn K (.ref f) = true) (hv : mA name = none) (h : Q (.ref f, [.ref x]) s) :
    wpAny (model prog w) A (getMethod (.ref x) name pl) Q E s := by
  obtain ⟨od, J, hl⟩ := I.look
  exact PySem.W.method_fn X J (PySem.W.plainGet_of hg).1 (PySem.W.plainGet_of hg).2 hf (beq_iff_eq.mp ht) (by show (PySem.W.lookIn name od).map (·.isSome) = some false; rw [hl, hv]; rfl) h

theorem set_map {ns : List Str} {Q : Unit → Shared → Prop} (X : K.In s.heap) (I : ObjM s.heap x dx C mA)
    (hs : PySem.W.findIn K (.ref C) "__setattr__" = some (some (.builtin "object.__setattr__"))) (hp : PySem.W.plainOver K C = true) (ht : PySem.W.takerIn K C name = some none) (hh : PySem.W.hasDictIn K C = true)
    (hw : PySem.Within mA ns) (hsz : ns.length ≤ sizeLine)
    (h : ∀ h', ObjM h' x dx C (fun y => if y = name then some v else mA y) → Heap.SameBut dx s.heap h' → Q () { s with heap := h', toks := s.toks + 2 }) :
    wpAny (model prog w) A (setAttr (.ref x) name v) Q E s := by
  obtain ⟨od, J, hl⟩ := I.look
  refine PySem.W.set_plain X J hs (PySem.W.osa_open (s := { s with toks := s.toks + 1 }) (r := none) X J hp ht fun b => ?_)
  obtain ⟨cd, hc, hd'⟩ := PySem.W.any_some hh
  have hx : s.heap.get? x = some ⟨.ref C, some dx, .plain, #[]⟩ := I.obj
  refine wpAny_bind (wpAny_pure (wpAny_bind (wpAny_bind (wpAny_loadPart hx (wpAny_bind (PySem.W.Looks.here (s := { s with toks := s.toks + 1 }) (PySem.W.looks_clsIn X hc) ?_))))))
  rw [hd']
  refine wpAny_pure (a := some dx) (wpAny_bind (wpAny_pure (wpAny_bind ?_)))
  refine wpAny_nsSet1 (s := { s with toks := s.toks + 1 }) I.ns fun h' hn2 hs2 => ?_
  obtain ⟨oD, esD, epD, hoD, hdD, hcD⟩ := hn2.count (PySem.Within.cons name v hw)
  refine wpAny_bind (wpAny_lookBehind hoD (by rw [hdD]; exact pastItsLine_dict (Nat.le_trans hcD (by rw [List.length_cons]; omega))) ?_)
  exact wpAny_pure (h _ ⟨(hs2.2 _ (Ne.symm I.ne)).trans I.obj, hn2, I.ne⟩ hs2)

/-- C(..): the dict at the heap's end, the instance behind it; then its __init__ -/
theorem make_map {R : Result → Shared → Prop} {vs : List Value} {kw : List (Str × Value)} (X : K.In s.heap) (hm : PySem.W.makesIn K C = true)
    (hi : PySem.W.findIn K (.ref C) "__init__" = some (some (.ref f))) (hf : PySem.W.typeIn K (.ref f) = some (.type "function"))
    (h : codeAny (model prog w) (A.under (.builtin "type.__call__" ⟨.ref C :: vs, kw⟩)) (.call (.ref f) ⟨.ref (s.heap.objs.size + 1) :: vs, kw⟩) (PySem.W.InitBack (s.heap.objs.size + 1) R)
      { s with heap := (s.heap.push PySem.W.emptyDict).push (PySem.W.instObj C s.heap.objs.size) }) :
    codeAny (model prog w) A (.call (.ref C) ⟨vs, kw⟩) R s := by
  obtain ⟨hh, g, d, t, os⟩ := s
  exact PySem.W.make_core (PySem.W.makes_of X hm) (PySem.W.looks_findIn X hi) (fun self => PySem.W.bind_fn X self hf) (.inl rfl) h
/-- C() where there is no __init__ but object's -/
theorem make_map0 {R : Result → Shared → Prop} (X : K.In s.heap) (hm : PySem.W.makesIn K C = true)
    (hi : PySem.W.findIn K (.ref C) "__init__" = some (some (.builtin "object.__init__")))
    (hb : ∀ self, PySem.W.Looks (model prog w) s.heap (bindSpecial (.builtin "object.__init__") self) (.builtin "object.__init__", [self]))
    (h : codeAny (model prog w) (A.under (.builtin "type.__call__" ⟨[.ref C], []⟩)) (.call (.builtin "object.__init__") ⟨[.ref (s.heap.objs.size + 1)], []⟩) (PySem.W.InitBack (s.heap.objs.size + 1) R)
      { s with heap := (s.heap.push PySem.W.emptyDict).push (PySem.W.instObj C s.heap.objs.size) }) :
    codeAny (model prog w) A (.call (.ref C) ⟨[], []⟩) R s := by
  obtain ⟨hh, g, d, t, os⟩ := s
  exact PySem.W.make_core (PySem.W.makes_of X hm) (PySem.W.looks_findIn X hi) hb (.inr ⟨rfl, rfl⟩) h
end

/-! ### the attributes as a list of pairs -/
def putF (f : Str) (v : V) : List (Str × V) → List (Str × V)
  | [] => [(f, v)]
  | (g, x) :: r => if g = f then (g, v) :: r else (g, x) :: putF f v r
theorem lookup_putF (f g : Str) (v : V) : ∀ fs : List (Str × V), (putF f v fs).lookup g = if g = f then some v else fs.lookup g
  | [] => by
    show List.lookup g [(f, v)] = _
    by_cases h : g = f
    · have hb : (g == f) = true := beq_iff_eq.mpr h
      simp only [List.lookup, hb, if_pos h]
    · have hb : (g == f) = false := beq_eq_false_iff_ne.mpr h
      simp only [List.lookup, hb, if_neg h]
  | (k, x) :: r => by
    have ih := lookup_putF f g v r
    rw [show putF f v ((k, x) :: r) = (if k = f then (k, v) :: r else (k, x) :: putF f v r) from rfl]
    by_cases hk : k = f
    · rw [if_pos hk]
      by_cases h : g = k
      · have hb : (g == k) = true := beq_iff_eq.mpr h
        simp only [List.lookup, hb, if_pos (h.trans hk)]
      · have hb : (g == k) = false := beq_eq_false_iff_ne.mpr h
        simp only [List.lookup, hb, if_neg (fun e : g = f => h (e.trans hk.symm))]
    · rw [if_neg hk]
      by_cases h : g = k
      · have hb : (g == k) = true := beq_iff_eq.mpr h
        simp only [List.lookup, hb, if_neg (fun e : g = f => hk (h.symm.trans e))]
      · have hb : (g == k) = false := beq_eq_false_iff_ne.mpr h
        simp only [List.lookup, hb]
        exact ih
theorem keys_putF (f : Str) (v : V) : ∀ fs : List (Str × V), f ∈ (putF f v fs).map (·.1) ∧ ∀ g, g ∈ fs.map (·.1) → g ∈ (putF f v fs).map (·.1)
  | [] => ⟨by simp [putF], fun g h => by simp at h⟩
  | (k, x) :: r => by
    obtain ⟨i1, i2⟩ := keys_putF f v r
    rw [show putF f v ((k, x) :: r) = (if k = f then (k, v) :: r else (k, x) :: putF f v r) from rfl]
    by_cases hk : k = f
    · rw [if_pos hk]
      subst hk
      exact ⟨by simp, fun g h => by simpa using h⟩
    · rw [if_neg hk]
      refine ⟨?_, fun g h => ?_⟩
      · rw [List.map_cons]
        exact List.mem_cons_of_mem _ i1
      · rw [List.map_cons] at h ⊢
        rcases List.mem_cons.mp h with e | e
        · exact List.mem_cons.mpr (.inl e)
        · exact List.mem_cons_of_mem _ (i2 g e)
theorem length_putF (f : Str) (v : V) : ∀ fs : List (Str × V), (putF f v fs).length ≤ fs.length + 1
  | [] => by simp [putF]
  | (k, x) :: r => by
    have ih := length_putF f v r
    rw [show putF f v ((k, x) :: r) = (if k = f then (k, v) :: r else (k, x) :: putF f v r) from rfl]
    by_cases hk : k = f
    · rw [if_pos hk, List.length_cons, List.length_cons]; omega
    · rw [if_neg hk, List.length_cons, List.length_cons]; omega

theorem RelO.some_of {v : V} {o : Option Value} (r : RelO (some v) o) : ∃ u, o = some u ∧ RelV v u := by
  cases o with
  | none => exact (show False from r).elim
  | some u => exact ⟨u, rfl, r⟩
theorem RelO.none_of {o : Option Value} (r : RelO none o) : o = none := by
  cases o with
  | none => rfl
  | some u => exact (show False from r).elim
theorem handed_of {v : V} {u : Value} (r : RelV v u) : PySem.W.handedIn u = true := by
  cases v with
  | non => cases (show u = Value.none from r); rfl
  | bl b => cases (show u = Value.bool b from r); rfl
  | int i => obtain ⟨t, e⟩ := (show ∃ t, u = Value.int i t from r); cases e; rfl
  | str x => obtain ⟨t, e⟩ := (show ∃ t, u = Value.str x t from r); cases e; rfl
  | byt b => obtain ⟨t, e⟩ := (show ∃ t, u = Value.bytes b t from r); cases e; rfl
  | flt b => obtain ⟨t, e⟩ := (show ∃ t, u = Value.float b t from r); cases e; rfl
  | ref a => cases (show u = Value.ref a from r); rfl
  | ty n => cases (show u = Value.type n from r); rfl

section
variable {P : Program} {w : World} {H H' : Hp} {h h' : Heap} {a C dx : Addr} {fs fs' : List (Str × V)}
theorem ins_get (hok : HOk P w H h) (e : H a = some (.ins C dx fs)) : ∃ mA, ObjM h a dx C mA ∧ (∀ f, RelO (fs.lookup f) (mA f)) ∧ PySem.Within mA (fs.map (·.1)) ∧ fs.length ≤ 1000 ∧ H dx = some (.own a) := by
  obtain ⟨d, z, ne, ob, mA, n, r, q⟩ := (show ObjOk P w H h a (.ins C dx fs) from hok a _ e)
  exact ⟨mA, ⟨ob, n, ne⟩, r, q, z, d⟩
end

/-! ### what of the text a class must have -/
structure Cls (K : PySem.W.Frag) (C : Addr) : Prop where
  pg : PySem.W.plainGet K C Str.empty = true
  hd : PySem.W.hasDictIn K C = true
  po : PySem.W.plainOver K C = true
  sa : PySem.W.findIn K (.ref C) "__setattr__" = some (some (.builtin "object.__setattr__"))
theorem Cls.get {K : PySem.W.Frag} {C : Addr} (c : Cls K C) (f : Str) : PySem.W.plainGet K C f = true := c.pg
/-- no class of it has the name -/
def NoAttr (K : PySem.W.Frag) (C : Addr) (f : Str) : Prop := PySem.W.findIn K (.ref C) f = some none
theorem NoAttr.taker {K : PySem.W.Frag} {C : Addr} {f : Str} (n : NoAttr K C f) : PySem.W.takerIn K C f = some none := by
  unfold PySem.W.takerIn
  rw [show PySem.W.findIn K (.ref C) f = some none from n]
  rfl
/-- a constant of the class -/
structure Con (K : PySem.W.Frag) (C : Addr) (f : Str) (v : V) (u : Value) : Prop where
  at_ : PySem.W.findIn K (.ref C) f = some (some u)
  rel : RelV v u
  get : PySem.W.specialIn K u "__get__" = some none
  cp : PySem.W.copiedNames.contains f = false
/-- a method: a plain def of the class or of one above it -/
structure Meth (K : PySem.W.Frag) (C : Addr) (m : Str) (f : Addr) : Prop where
  at_ : PySem.W.findIn K (.ref C) m = some (some (.ref f))
  fn : PySem.W.isFn K (.ref f) = true
  kp : PySem.W.keepIn K (.ref f) = true

section
variable {X : Cx} {pins : List (Addr × Obj)} {σ : St} {H : Hp} {s : Shared} {a C dx : Addr} {fs : List (Str × V)} {f : Str} {v : V} {A : Around} {E : Value → Shared → Prop}

theorem getattr_ok {b : Bool} {Q : Value → Shared → Prop} (I : Inv X pins σ H s) (e : H a = some (.ins C dx fs)) (c : Cls X.K C) (n : NoAttr X.K C f) (l : fs.lookup f = some v)
    (h : ∀ u s', Inv X pins σ H s' → RelV v u → Q u s') : wpAny (model X.prog X.w) A (getAttr (.ref a) f b) Q E s := by
  obtain ⟨mA, O, r, _, _, _⟩ := ins_get I.hok e
  obtain ⟨u, hu, ru⟩ := RelO.some_of (v := v) (o := mA f) (by rw [← l]; exact r f)
  exact get_map I.kIn O (c.get f) c.hd n hu (handed_of ru) (h u _ (I.tok _) ru)

theorem getcon_ok {b : Bool} {u : Value} {Q : Value → Shared → Prop} (I : Inv X pins σ H s) (e : H a = some (.ins C dx fs)) (c : Cls X.K C) (k : Con X.K C f v u) (l : fs.lookup f = none)
    (h : ∀ s', Inv X pins σ H s' → Q u s') : wpAny (model X.prog X.w) A (getAttr (.ref a) f b) Q E s := by
  obtain ⟨mA, O, r, _, _, _⟩ := ins_get I.hok e
  have hn : mA f = none := RelO.none_of (by rw [← l]; exact r f)
  exact get_const I.kIn O (c.get f) c.hd k.at_ k.get k.cp hn (handed_of k.rel) (h _ (I.tok _))

theorem getmeth_ok {m : Str} {g : Addr} {pl : Sem Bool} {Q : Value × List Value → Shared → Prop} (I : Inv X pins σ H s) (e : H a = some (.ins C dx fs)) (c : Cls X.K C) (k : Meth X.K C m g) (l : fs.lookup m = none)
    (h : Q (.ref g, [.ref a]) s) : wpAny (model X.prog X.w) A (getMethod (.ref a) m pl) Q E s := by
  obtain ⟨mA, O, r, _, _, _⟩ := ins_get I.hok e
  have hn : mA m = none := RelO.none_of (by rw [← l]; exact r m)
  exact get_meth I.kIn O (c.get m) k.at_ k.fn hn h

theorem setattr_ok {y : V} {u : Value} {Q : Unit → Shared → Prop} (I : Inv X pins σ H s) (e : H a = some (.ins C dx fs)) (c : Cls X.K C) (n : NoAttr X.K C f) (hl : fs.length < 1000) (ry : RelV y u)
    (h : ∀ s', Inv X pins σ (upd H a (.ins C dx (putF f y fs))) s' → Q () s') : wpAny (model X.prog X.w) A (setAttr (.ref a) f u) Q E s := by
  obtain ⟨mA, O, r, wi, _, ho⟩ := ins_get I.hok e
  have hz : (fs.map (·.1)).length ≤ sizeLine := by rw [List.length_map, sizeLine_eq]; omega
  refine set_map I.kIn O c.sa c.po n.taker c.hd wi hz fun h' O' sb => h _ ?_
  have hd : ∃ o, h'.get? dx = some o := let ⟨o, _, _, e', _⟩ := O'.ns; ⟨o, e'⟩
  refine I.write (x := a) (e := dx) (by rw [e]; exact True.intro) (.inr ho) (fun b q hb z => (sb.2 b hb).trans z) hd ?_
  refine ⟨by rw [upd_ne O.ne]; exact ho, ?_, O.ne, O'.obj, _, O'.ns, fun g => ?_, fun g hg => ?_⟩
  · have := length_putF f y fs; omega
  · show RelO ((putF f y fs).lookup g) (if g = f then some u else mA g)
    rw [lookup_putF]
    by_cases q : g = f
    · rw [if_pos q, if_pos q]; exact ry
    · rw [if_neg q, if_neg q]; exact r g
  · by_cases q : g = f
    · rw [q]; exact (keys_putF f y fs).1
    · refine (keys_putF f y fs).2 g (wi g fun z => hg ?_)
      show (if g = f then some u else mA g) = none
      rw [if_neg q]; exact z

/-- a new instance, tracked, without attributes -/
theorem Inv.made (I : Inv X pins σ H s) : Inv X pins σ (upd (upd H s.heap.objs.size (.own (s.heap.objs.size + 1))) (s.heap.objs.size + 1) (.ins C s.heap.objs.size []))
    { s with heap := (s.heap.push PySem.W.emptyDict).push (PySem.W.instObj C s.heap.objs.size) } := by
  have e1 : (s.heap.push PySem.W.emptyDict).get? s.heap.objs.size = some PySem.W.emptyDict := Heap.get?_push_size s.heap rfl
  have e2 : ((s.heap.push PySem.W.emptyDict).push (PySem.W.instObj C s.heap.objs.size)).get? (s.heap.objs.size + 1) = some (PySem.W.instObj C s.heap.objs.size) := by
    have := Heap.get?_push_size (s.heap.push PySem.W.emptyDict) (o := PySem.W.instObj C s.heap.objs.size) rfl
    rwa [Heap.size_push] at this
  have e3 : (s.heap.push PySem.W.emptyDict).Ns s.heap.objs.size (fun _ => none) := ⟨PySem.W.emptyDict, #[], _, e1, rfl, (fun e he => absurd he (by simp)), fun _ => rfl⟩
  have I1 := I.laid (a := s.heap.objs.size) (o := .own (s.heap.objs.size + 1)) (h' := s.heap.push PySem.W.emptyDict) (t' := s.toks) (fun b u q => Heap.get?_push_of_some _ q) (Nat.le_refl _) ⟨_, e1⟩
  refine I1.laid (a := s.heap.objs.size + 1) (o := .ins C s.heap.objs.size []) (t' := s.toks) (fun b u q => Heap.get?_push_of_some _ q) (Nat.le_of_eq (Heap.size_push _ _)) ?_
  have ne : s.heap.objs.size ≠ s.heap.objs.size + 1 := Nat.ne_of_lt (Nat.lt_succ_self _)
  refine ⟨by rw [upd_ne ne, upd_same], Nat.zero_le _, ne, e2, fun _ => none, (Heap.Ns1.of_empty e3).at fun o q => Heap.get?_push_of_some _ q, fun _ => True.intro, fun y hy => absurd rfl hy⟩

/-- e.f where nothing but the object is asked: through attributeBase (super) and the last hold -/
theorem attr_of {prog : Program} {w : World} {env : Env} {e : Expr} {f : Str} {pos : Pos} {s : Shared} {Q : Value → Shared → Prop} (hb : attributeBase e f env (eval e env) = eval e env)
    (h : wpAny (model prog w) A (eval e env) (fun o s₁ => wpAny (model prog w) A (getAttr o f true) Q E s₁) E s) : wpAny (model prog w) A (eval (.Attribute e f pos) env) Q E s :=
  Attribute_any_ h (by rw [arm_eval_Attribute, hb])
end

/-! ### readings and rules -/
/-- e.f, an attribute of the instance -/
def tFld (K : PySem.W.Frag) (ta : TE) (f : Str) : TE := fun σ H Q => ta σ H fun x H1 => ∃ a C dx fs v, x = .ref a ∧ H1 a = some (.ins C dx fs) ∧ Cls K C ∧ NoAttr K C f ∧ fs.lookup f = some v ∧ Q v H1
/-- e.f, a constant of the class -/
def tCon (K : PySem.W.Frag) (ta : TE) (f : Str) : TE := fun σ H Q => ta σ H fun x H1 => ∃ a C dx fs v u, x = .ref a ∧ H1 a = some (.ins C dx fs) ∧ Cls K C ∧ Con K C f v u ∧ fs.lookup f = none ∧ Q v H1
/-- e.f = value -/
def sFld (K : PySem.W.Frag) (ta tv : TE) (f : Str) : TS := fun D σ H => tv σ H fun y H1 => ta σ H1 fun x H2 => ∃ a C dx fs, x = .ref a ∧ H2 a = some (.ins C dx fs) ∧ Cls K C ∧ NoAttr K C f ∧ fs.length < 1000 ∧
  D.nx σ (upd H2 a (.ins C dx (putF f y fs)))
/-- an augmented operator on two values -/
def InOp (X : Cx) (op : Operator) (rd : V → V → Hp → VK → Prop) : Prop :=
  ∀ (pins : List (Addr × Obj)) (s : Shared) (σ : St) (H : Hp) (x y : V) (u v : Value) (Q : VK), Inv X pins σ H s → RelV x u → RelV y v → rd x y H Q → wpAny (model X.prog X.w) X.A (inplaceOp op u v) (EP X pins σ Q) X.xe s
/-- e.f op= value -/
def sFldAug (K : PySem.W.Frag) (ta tv : TE) (rd : V → V → Hp → VK → Prop) (f : Str) : TS := fun D σ H => ta σ H fun x H1 => ∃ a C dx fs v, x = .ref a ∧ H1 a = some (.ins C dx fs) ∧ Cls K C ∧ NoAttr K C f ∧ fs.lookup f = some v ∧
  tv σ H1 fun y H2 => rd v y H2 fun z H3 => ∃ dx' fs', H3 a = some (.ins C dx' fs') ∧ fs'.length < 1000 ∧ D.nx σ (upd H3 a (.ins C dx' (putF f z fs')))

section
variable {X : Cx} {o e value : Expr} {f : Str} {pos pos' tpos : Pos} {ta tv : TE}
theorem pe_fld (he : PE X e ta) (hb : attributeBase e f X.env (eval e X.env) = eval e X.env) : PE X (.Attribute e f pos) (tFld X.K ta f) := by
  intro pins s σ H Q I h
  refine attr_of hb (thn (he pins s σ H _ I h) fun u s1 ⟨x, H1, I1, rx, a, C, dx, fs, v, ex, ea, c, n, l, q⟩ => ?_)
  subst ex
  obtain rfl : u = Value.ref a := rx
  exact getattr_ok I1 ea c n l fun u' s2 I2 ru => ⟨v, H1, I2, ru, q⟩
theorem pe_con (he : PE X e ta) (hb : attributeBase e f X.env (eval e X.env) = eval e X.env) : PE X (.Attribute e f pos) (tCon X.K ta f) := by
  intro pins s σ H Q I h
  refine attr_of hb (thn (he pins s σ H _ I h) fun u s1 ⟨x, H1, I1, rx, a, C, dx, fs, v, u0, ex, ea, c, k, l, q⟩ => ?_)
  subst ex
  obtain rfl : u = Value.ref a := rx
  exact getcon_ok I1 ea c k l fun s2 I2 => ⟨v, H1, I2, k.rel, q⟩
theorem ps_fld (ha : PE X o ta) (hv : PE X value tv) (hs : swapsWith value (some (.Attribute o f pos')) pos.line X.env = pure false) : PS X (.Assign [.Attribute o f pos'] value pos) (sFld X.K ta tv f) := by
  intro pins s σ H D I h
  refine plainObj_wpAny_Assign_Attribute (thn (hv pins s σ H _ I h) fun u s1 ⟨y, H1, I1, ry, q⟩ => thn (ha pins s1 σ H1 _ I1 q) fun ov s2 ⟨x, H2, I2, rx, a, C, dx, fs, ex, ea, c, n, l, q2⟩ => ?_) hs
  subst ex
  obtain rfl : ov = Value.ref a := rx
  exact setattr_ok I2 ea c n l ry fun s3 I3 => ⟨σ, _, I3, q2⟩
theorem ps_fldaug {op : Operator} {rd : V → V → Hp → VK → Prop} (ha : PE X o ta) (hv : PE X value tv) (hop : InOp X op rd) : PS X (.AugAssign (.Attribute o f tpos) op value pos) (sFldAug X.K ta tv rd f) := by
  intro pins s σ H D I h
  refine wpAny_AugAssign_AttributeAny (thn (ha pins s σ H _ I h) fun ov s1 ⟨x, H1, I1, rx, a, C, dx, fs, v, ex, ea, c, n, l, q⟩ => ?_)
  subst ex
  obtain rfl : ov = Value.ref a := rx
  refine getattr_ok I1 ea c n l fun u s2 I2 ru => thn (hv pins s2 σ H1 _ I2 q) fun w3 s3 ⟨y, H2, I3, ry, q3⟩ => thn (hop pins s3 σ H2 v y u w3 _ I3 ru ry q3) fun w4 s4 ⟨z, H3, I4, rz, dx', fs', ea', l', q4⟩ => ?_
  exact setattr_ok I4 ea' c n l' rz fun s5 I5 => ⟨σ, _, I5, q4⟩
def rAdd : V → V → Hp → VK → Prop := fun x y H Q => ∃ i j, x = .int i ∧ y = .int j ∧ Q (.int (i + j)) H
def rSub : V → V → Hp → VK → Prop := fun x y H Q => ∃ i j, x = .int i ∧ y = .int j ∧ Q (.int (i - j)) H
theorem in_add : InOp X .Add rAdd := by
  rintro pins s σ H x y u v Q I rx ry ⟨i, j, rfl, rfl, q⟩
  obtain ⟨t, rfl⟩ := (show ∃ t, u = Value.int i t from rx)
  obtain ⟨t', rfl⟩ := (show ∃ t', v = Value.int j t' from ry)
  exact PyProof.Rows.iadd_int ⟨.int (i + j), H, I.tok _, ⟨_, rfl⟩, q⟩
theorem in_sub : InOp X .Sub rSub := by
  rintro pins s σ H x y u v Q I rx ry ⟨i, j, rfl, rfl, q⟩
  obtain ⟨t, rfl⟩ := (show ∃ t, u = Value.int i t from rx)
  obtain ⟨t', rfl⟩ := (show ∃ t', v = Value.int j t' from ry)
  exact PyProof.Rows.isub_int ⟨.int (i - j), H, I.tok _, ⟨_, rfl⟩, q⟩

/-- what is between an instance and its method: the tree of a method call -/
theorem methcall_of {pl : Sem Bool} {m : Str} {apos : Pos} {args : List Expr} {pins : List (Addr × Obj)} {s : Shared} {σ : St} {H : Hp} {Q : Value → Shared → Prop} {te : TE} (he : PE X e te) (I : Inv X pins σ H s)
    (h : te σ H fun x H1 => ∃ a C dx fs g, x = .ref a ∧ H1 a = some (.ins C dx fs) ∧ Cls X.K C ∧ Meth X.K C m g ∧ fs.lookup m = none ∧
      ∀ s1, Inv X pins σ H1 s1 → wpAny (model X.prog X.w) X.A (callWith pos (.ref g) [.ref a] (backTo pos (starEach args X.env)) (backToKw pos (keywordEach [] X.env))) Q X.xe s1)
    (ht : eval (.Call (.Attribute e m apos) args [] pos) X.env = (do
      let ov ← eval e X.env
      standAt apos.atName
      let (f, first) ← holding [ov] (getMethod ov m pl)
      callWith pos f first (backTo pos (starEach args X.env)) (backToKw pos (keywordEach [] X.env)))) :
    wpAny (model X.prog X.w) X.A (eval (.Call (.Attribute e m apos) args [] pos) X.env) Q X.xe s := by
  refine PySem.W.methodCall_KW (pl := pl) (thn (he pins s σ H _ I h) fun u s1 ⟨x, H1, I1, rx, a, C, dx, fs, g, ex, ea, c, k, l, q⟩ => ?_) ht
  subst ex
  obtain rfl : u = Value.ref a := rx
  exact getmeth_ok I1 ea c k l (q s1 I1)
end

/-! ### isinstance -/
section
variable {X : Cx} {pins : List (Addr × Obj)} {σ : St} {H : Hp} {s : Shared} {A : Around} {E : Value → Shared → Prop} {Q : Value → Shared → Prop} {c : Value} {b : Bool}
/-- the type of a value, as the fragment's deciders take it; for an instance its class -/
inductive TyOf (K : PySem.W.Frag) (H : Hp) : V → Value → Prop where
  | non : TyOf K H .non (.type "NoneType")
  | bl (x : Bool) : TyOf K H (.bl x) (.type "bool")
  | int (i : Int) : TyOf K H (.int i) (.type "int")
  | str (x : Str) : TyOf K H (.str x) (.type "str")
  | flt (x : UInt64) : TyOf K H (.flt x) (.type "float")
  | lst {a : Addr} {xs : List V} (e : H a = some (.lst xs)) : TyOf K H (.ref a) (.type "list")
  | frz {a : Addr} {o : Obj} {xs : List V} (e : H a = some (.frz o (.lst xs))) : TyOf K H (.ref a) (.type "list")
  | tup {a : Addr} {xs : List V} (e : H a = some (.tup xs)) : TyOf K H (.ref a) (.type "tuple")
  | dK {a : Addr} {kvs : List (Key × V)} (e : H a = some (.dK kvs)) : TyOf K H (.ref a) (.type "dict")
  | dT {a : Addr} {kvs : List (List Key × V)} (e : H a = some (.dT kvs)) : TyOf K H (.ref a) (.type "dict")
  | ins {a C dx : Addr} {fs : List (Str × V)} (e : H a = some (.ins C dx fs)) (cl : Cls K C) (ha : PySem.W.findIn K (.ref C) "__class__" = some (some (.builtin "object.__class__")))
      (hn : PySem.W.specialIn K (.builtin "object.__class__") "__get__" = some (some (.builtin "getset_descriptor.__get__"))) (htk : PySem.W.takesIn K (.builtin "object.__class__") = some true)
      (hm : PySem.W.mroIn K C (.type "object") = some true) : TyOf K H (.ref a) (.ref C)
/-- isinstance(x, c) for one class c, a built-in or an own one: kitOne's answer -/
theorem isinst_ok {x : V} {u t : Value} (I : Inv X pins σ H s) (rx : RelV x u) (ty : TyOf X.K H x t) (e : PySem.W.kitOne X.K t c = some b) (h : ∀ tk, Q (.bool b) { s with toks := tk }) :
    wpAny (model X.prog X.w) A (call (.builtin "isinstance") [u, c]) Q E s := by
  cases ty with
  | non => cases (show u = Value.none from rx); exact PySem.W.kia_one PySem.W.kitx_none I.kIn True.intro e (fun z => nomatch z) h
  | bl y => cases (show u = Value.bool y from rx); exact PySem.W.kia_one PySem.W.kitx_bool I.kIn True.intro e (fun z => nomatch z) h
  | int i => obtain ⟨t, q⟩ := (show ∃ t, u = Value.int i t from rx); cases q; exact PySem.W.kia_one PySem.W.kitx_int I.kIn True.intro e (fun z => nomatch z) h
  | str y => obtain ⟨t, q⟩ := (show ∃ t, u = Value.str y t from rx); cases q; exact PySem.W.kia_one PySem.W.kitx_str I.kIn True.intro e (fun z => nomatch z) h
  | flt y => obtain ⟨t, q⟩ := (show ∃ t, u = Value.float y t from rx); cases q; exact PySem.W.kia_one PySem.W.kitx_float I.kIn True.intro e (fun z => nomatch z) h
  | @lst a xs ea =>
    cases (show u = Value.ref a from rx)
    obtain ⟨_, _, n, _, h1⟩ := (show ObjOk X.prog X.w H s.heap a (.lst xs) from I.hok a _ ea)
    exact PySem.W.kia_one PySem.W.kitx_list I.kIn ⟨_, h1, rfl⟩ e (fun z => nomatch z) h
  | @frz a ob xs ea =>
    cases (show u = Value.ref a from rx)
    obtain ⟨_, _, _, n, _, h1⟩ := (show ObjOk X.prog X.w H s.heap a (.frz ob (.lst xs)) from I.hok a _ ea)
    exact PySem.W.kia_one PySem.W.kitx_list I.kIn ⟨_, h1, rfl⟩ e (fun z => nomatch z) h
  | @tup a xs ea =>
    cases (show u = Value.ref a from rx)
    obtain ⟨_, _, _, p⟩ := (show ObjOk X.prog X.w H s.heap a (.tup xs) from I.hok a _ ea)
    obtain ⟨o, h1, h2, _⟩ := p
    exact PySem.W.kia_one PySem.W.kitx_tuple I.kIn ⟨o, h1, h2⟩ e (fun z => nomatch z) h
  | @dK a kvs ea =>
    cases (show u = Value.ref a from rx)
    obtain ⟨_, _, vs, _, p⟩ := (show ObjOk X.prog X.w H s.heap a (.dK kvs) from I.hok a _ ea)
    obtain ⟨o, es, ep, h1, h2, _⟩ := p
    exact PySem.W.kia_one PySem.W.kitx_dict I.kIn ⟨o, h1, h2.1⟩ e (fun z => nomatch z) h
  | @dT a kvs ea =>
    cases (show u = Value.ref a from rx)
    obtain ⟨_, _, xs, _, o, es, ep, h1, h2, _⟩ := (show ObjOk X.prog X.w H s.heap a (.dT kvs) from I.hok a _ ea)
    exact PySem.W.kia_one PySem.W.kitx_dict I.kIn ⟨o, h1, h2.1⟩ e (fun z => nomatch z) h
  | @ins a C dx fs ea cl ha hn htk hm =>
    cases (show u = Value.ref a from rx)
    obtain ⟨mA, O, _⟩ := ins_get I.hok ea
    obtain ⟨od, J, _⟩ := O.look
    exact PySem.W.kia_one (PySem.W.kitx_own (cl.get _) cl.hd ha hn htk hm) I.kIn J e (fun z => nomatch z) h
end
end L2

namespace L2
open PySem PySem.Spec PyProof.Rows

/-! ### room -/
structure Room (k : Nat) (A : Around) : Prop where
  hd : A.handled = none
  dp : A.depth + 3 * k + 5 < recursionLimit
  un : A.units + 16 * k + 200 < cLine
theorem Room.mono {j k : Nat} {A : Around} (r : Room k A) (h : j ≤ k) : Room j A := ⟨r.hd, by have := r.dp; omega, by have := r.un; omega⟩
theorem Room.deeper {k : Nat} {A : Around} (r : Room (k + 1) A) (env : Env) : Room k (A.deeper env) :=
  ⟨r.hd, by have := r.dp; show A.depth + 1 + 3 * k + 5 < _; omega, by have := r.un; show A.units + 3 + 16 * k + 200 < _; omega⟩
theorem Room.in1 {k : Nat} {A : Around} (r : Room (k + 1) A) : Room k A.in1 :=
  ⟨r.hd, by have := r.dp; show A.depth + 3 * k + 5 < _; omega, by have := r.un; show A.units + 1 + 16 * k + 200 < _; omega⟩
theorem make_depth {A : Around} {C : Addr} {us : List Value} {kw : List (Str × Value)} : (A.under (.builtin "type.__call__" ⟨.ref C :: us, kw⟩)).depth = A.depth + 1 := by
  first | rfl | simp [Around.under, Code.weight, Code.isCreation, Code.isGuard, Code.isCaller, Code.frames, Code.isFrame, guardIds]
theorem make_units {A : Around} {C : Addr} {us : List Value} {kw : List (Str × Value)} : (A.under (.builtin "type.__call__" ⟨.ref C :: us, kw⟩)).units = A.units + 1 := by
  first | rfl | simp [Around.under, Code.cUnits, Code.frames, Code.isFrame]
theorem Room.make {k : Nat} {A : Around} (r : Room (k + 1) A) (C : Addr) (us : List Value) (kw : List (Str × Value)) : Room k (A.under (.builtin "type.__call__" ⟨.ref C :: us, kw⟩)) :=
  ⟨r.hd, by have := r.dp; rw [make_depth]; omega, by have := r.un; rw [make_units]; omega⟩
theorem Room.depth {k : Nat} {A : Around} (r : Room k A) : A.depth < recursionLimit := by have := r.dp; omega
theorem Room.units {k : Nat} {A : Around} (r : Room k A) : A.units + 64 < cLine := by have := r.un; omega
theorem Room.units0 {k : Nat} {A : Around} (r : Room k A) : A.units < cLine := by have := r.un; omega

/-! ### argument lists and displays -/
def tNil : TA := fun _ H Q => Q [] H
def tCons (ta : TE) (tr : TA) : TA := fun σ H Q => ta σ H fun x H1 => tr σ H1 fun xs H2 => Q (x :: xs) H2
section
variable {X : Cx} {e : Expr} {es : List Expr} {te : TE} {t : TA} {pos : Pos}
theorem pa_nil : PA X [] tNil := fun _ _ _ _ H Q I h => Calls.spliced_nil ⟨[], H, I, .nil, h⟩
theorem pa_cons (ha : PE X e te) (hr : PA X es t) (hs : starEach (e :: es) X.env = (false, eval e X.env) :: starEach es X.env := by rfl) : PA X (e :: es) (tCons te t) := by
  intro pos pins s σ H Q I h
  rw [hs]
  show wpAny _ _ (spliced ((false, eval e X.env) :: backTo pos (starEach es X.env))) _ _ s
  refine Calls.spliced_cons (thn (ha pins s σ H _ I h) fun u s1 ⟨x, H1, I1, r1, q1⟩ => ?_)
  exact thn (hr pos pins s1 σ H1 _ I1 q1) fun us s2 ⟨xs, H2, I2, r2, q2⟩ => ⟨x :: xs, H2, I2, .cons r1 r2, q2⟩

/-- a tuple, a list of written items -/
def tTup (t : TA) : TE := fun σ H Q => t σ H fun xs H1 => xs.length ≤ sizeLine ∧ ∀ p, H1 p = none → Q (.ref p) (upd H1 p (.tup xs))
def tLst (t : TA) : TE := fun σ H Q => t σ H fun xs H1 => xs.length ≤ sizeLine ∧ ∀ p, H1 p = none → Q (.ref p) (upd H1 p (.lst xs))
theorem pe_tup {x1} (h : PA X es t) : PE X (.Tuple es x1 pos) (tTup t) := by
  intro pins s σ H Q I hq
  refine wpAny_Tuple_spliced (thn (h pos pins s σ H _ I hq) fun us s1 ⟨xs, H1, I1, r, z, q⟩ => ⟨by rw [← r.length]; exact z, ?_⟩)
  have hf : H1 s1.heap.objs.size = none := I1.hok.fresh (Nat.le_refl _)
  refine ⟨.ref s1.heap.objs.size, upd H1 s1.heap.objs.size (.tup xs), I1.laid (t' := s1.toks) (fun b u e => Heap.get?_push_of_some _ e) (Nat.le_refl _) ?_, rfl, q _ hf⟩
  exact ⟨z, us, r, ⟨_, Heap.get?_push_size _ rfl, rfl, _, rfl⟩⟩
theorem pe_lst (h : PA X es t) : PE X (.List es pos) (tLst t) := by
  intro pins s σ H Q I hq
  refine wpAny_List_spliced (thn (h pos pins s σ H _ I hq) fun us s1 ⟨xs, H1, I1, r, z, q⟩ => ⟨by rw [← r.length]; exact z, ?_⟩)
  have hf : H1 s1.heap.objs.size = none := I1.hok.fresh (Nat.le_refl _)
  refine ⟨.ref s1.heap.objs.size, upd H1 s1.heap.objs.size (.lst xs), I1.laid (t' := s1.toks) (fun b u e => Heap.get?_push_of_some _ e) (Nat.le_refl _) ?_, rfl, q _ hf⟩
  exact ⟨z, us, 0, r, Heap.get?_push_size _ rfl⟩
end

/-! ### what a def promises -/
/-- a def's promise: the bound arguments in the parameters' order, the heap, the wanted end, the wanted exception -/
abbrev Sp := List V → Hp → VK → XK → Prop
/-- how an exception lies behind a call (file 08 gives it): the callers' frames, abstract heap and state ahead of the call, the wish, the exception, the state -/
abbrev CXT := List Env → Hp → Shared → XK → Value → Shared → Prop

/-- the state at a call -/
structure Env0 (P : Program) (w : World) (K : PySem.W.Frag) (mg : Str → Option Value) (base : Heap) (A : Around) (outer : List Env) (s : Shared) (H : Hp) : Prop where
  frames : A.frames = some outer
  mod : Mod K mg base
  bs : ∀ b o, base.get? b = some o → s.heap.get? b = some o ∧ H b = none
  bsz : base.objs.size ≤ s.heap.objs.size
  funs : s.heap.FunFrames base outer
  frf : ∀ b ∈ frs outer, H b = none
  hok : HOk P w H s.heap
  bare : AllBare s.gens
/-- a call's end -/
def CE (outer : List Env) (P : Program) (w : World) (H : Hp) (s : Shared) (Q : VK) (u : Value) (s' : Shared) : Prop :=
  ∃ v H', s'.os = s.os ∧ AllBare s'.gens ∧ Un (frs outer) [] H H' s.heap s'.heap ∧ HOk P w H' s'.heap ∧ RelV v u ∧ Q v H'
def CR (CX : CXT) (outer : List Env) (P : Program) (w : World) (H : Hp) (s : Shared) (Q : VK) (E : XK) (r : Result) (s' : Shared) : Prop :=
  match r with
  | .ok (.ret u) => CE outer P w H s Q u s'
  | .ok _ => False
  | .error e => CX outer H s E e s'
structure FnOk (P : Program) (w : World) (K : PySem.W.Frag) (mg : Str → Option Value) (base : Heap) (CX : CXT) (k : Nat) (f : Addr) (fd : FuncData) (ps : List Str) (sp : Sp) : Prop where
  len : ∀ vs H Q E, sp vs H Q E → vs.length = ps.length
  run : ∀ (A : Around) (outer : List Env) (s : Shared) (H : Hp) (args : Args) (us : List Value) (vs : List V) (Q : VK) (E : XK), Room k A → Env0 P w K mg base A outer s H → BindsTo s fd args (ps.zip us) → Vals vs us → sp vs H Q E →
    codeAny (model P w) A (.call (.ref f) args) (CR CX outer P w H s Q E) s
theorem FnOk.mono {P : Program} {w : World} {K : PySem.W.Frag} {mg : Str → Option Value} {base : Heap} {CX : CXT} {j k : Nat} {f : Addr} {fd : FuncData} {ps : List Str} {sp : Sp} (F : FnOk P w K mg base CX j f fd ps sp) (h : j ≤ k) :
    FnOk P w K mg base CX k f fd ps sp := ⟨F.len, fun A outer s H args us vs Q E hr => F.run A outer s H args us vs Q E (hr.mono h)⟩
/-- a weaker promise -/
theorem FnOk.imp {P : Program} {w : World} {K : PySem.W.Frag} {mg : Str → Option Value} {base : Heap} {CX : CXT} {k : Nat} {f : Addr} {fd : FuncData} {ps : List Str} {sp sp' : Sp} (F : FnOk P w K mg base CX k f fd ps sp)
    (h : ∀ vs H Q E, sp' vs H Q E → sp vs H Q E) : FnOk P w K mg base CX k f fd ps sp' :=
  ⟨fun vs H Q E q => F.len vs H Q E (h _ _ _ _ q), fun A outer s H args us vs Q E hr he hb hv hs => F.run A outer s H args us vs Q E hr he hb hv (h _ _ _ _ hs)⟩

theorem Env0.make {P : Program} {w : World} {K : PySem.W.Frag} {mg : Str → Option Value} {base : Heap} {A : Around} {outer : List Env} {s : Shared} {H : Hp} (e : Env0 P w K mg base A outer s H) (C : Addr) (us : List Value) (kw : List (Str × Value)) :
    Env0 P w K mg base (A.under (.builtin "type.__call__" ⟨.ref C :: us, kw⟩)) outer s H := ⟨by first | exact e.frames | (simpa [Around.under, Code.envs, Code.isFrame, pushEnvs] using e.frames), e.mod, e.bs, e.bsz, e.funs, e.frf, e.hok, e.bare⟩
theorem Env0.in1 {P : Program} {w : World} {K : PySem.W.Frag} {mg : Str → Option Value} {base : Heap} {A : Around} {outer : List Env} {s : Shared} {H : Hp} (e : Env0 P w K mg base A outer s H) :
    Env0 P w K mg base A.in1 outer s H := ⟨e.frames, e.mod, e.bs, e.bsz, e.funs, e.frf, e.hok, e.bare⟩

section
variable {X : Cx} {pins : List (Addr × Obj)} {σ : St} {H : Hp} {s s' : Shared}
/-- from a body: what a callee wants -/
theorem Inv.env0 (I : Inv X pins σ H s) : Env0 X.prog X.w X.K X.mg X.base X.A X.stack s H :=
  ⟨I.ok.frames, I.ok.mod, I.bs, Nat.le_trans I.ok.bsz I.sz, I.stack, I.stkFree, I.hok, I.bare⟩
/-- behind a call -/
theorem Inv.after {Q : VK} {u : Value} (I : Inv X pins σ H s) (h : CE X.stack X.prog X.w H s Q u s') : EP X pins σ Q u s' := by
  obtain ⟨v, H', os, bare, un, hok, r, q⟩ := h
  obtain ⟨hh, g, d, t, os'⟩ := s'
  obtain rfl : os' = s.os := os
  exact ⟨v, H', I.call (h' := hh) (g' := g) (d' := d) (t' := t) (ch := []) un hok bare (fun b z => absurd z (by simp)), r, q⟩
end

/-! ### calls -/
/-- f(..): the written arguments, then the defaults dvs; E: what is wanted of an exception -/
def tCall (sp : Sp) (dvs : List V) (E : XK) (t : TA) : TE := fun σ H Q => t σ H fun vs H1 => sp (vs ++ dvs) H1 Q E
/-- o.m(..) of an instance of the class at C -/
def tMeth (C : Addr) (m : Str) (sp : Sp) (dvs : List V) (E : XK) (ta : TE) (t : TA) : TE := fun σ H Q => ta σ H fun x H1 => ∃ a dx fs, x = .ref a ∧ H1 a = some (.ins C dx fs) ∧ fs.lookup m = none ∧
  t σ H1 fun vs H2 => sp (x :: (vs ++ dvs)) H2 Q E
/-- C(..): a new instance and its dict, then __init__ -/
def tMake (C : Addr) (sp : Sp) (dvs : List V) (E : XK) (t : TA) : TE := fun σ H Q => t σ H fun vs H1 => ∀ x dx, H1 x = none → H1 dx = none → dx ≠ x →
  sp (.ref x :: (vs ++ dvs)) (upd (upd H1 dx (.own x)) x (.ins C dx [])) (fun v H2 => v = .non ∧ Q (.ref x) H2) E

/-- how the parameters are bound: us the positional arguments, kw the keywords' values by name, ds the defaults that fill up -/
def Binds (K : PySem.W.Frag) (fd : FuncData) (ps : List Str) (ds : List Value) : Prop :=
  ∀ (s : Shared) (us : List Value), K.In s.heap → (us ++ ds).length = ps.length → BindsTo s fd ⟨us, []⟩ (ps.zip (us ++ ds))
/-- every parameter is given -/
theorem Binds.all {K : PySem.W.Frag} {fd : FuncData} {ps : List Str} (h : ∀ us : List Value, us.length = ps.length → bindArgs fd ⟨us, []⟩ = pure (ps.zip us)) : Binds K fd ps [] := fun s us _ hl => by
  rw [List.append_nil] at hl ⊢
  exact .of_eq (h us hl)

/-- an exception of a callee reaches what this body wants of exceptions -/
def Passes (CX : CXT) (X : Cx) (E : XK) : Prop := ∀ (pins : List (Addr × Obj)) (σ : St) (H : Hp) (s : Shared) (e : Value) (s' : Shared), Inv X pins σ H s → CX X.stack H s E e s' → X.xe e s'

section
variable {X : Cx} {CX : CXT} {k : Nat} {f C : Addr} {fd : FuncData} {ps : List Str} {sp : Sp} {dvs : List V} {ds : List Value} {E : XK} {x m : Str} {p pos apos : Pos} {e o : Expr} {es : List Expr} {ta : TE} {t : TA}

/-- the callee runs -/
theorem run_fn {pins : List (Addr × Obj)} {σ : St} {H : Hp} {s : Shared} {Q : VK} {us : List Value} {vs : List V} (F : FnOk X.prog X.w X.K X.mg X.base CX k f fd ps sp) (hr : Room k X.A) (hb : Binds X.K fd ps ds) (hd : Vals dvs ds) (hx : Passes CX X E)
    (I : Inv X pins σ H s) (r : Vals vs us) (h : sp (vs ++ dvs) H Q E) : wpAny (model X.prog X.w) X.A (call (.ref f) us) (EP X pins σ Q) X.xe s := by
  have r2 : Vals (vs ++ dvs) (us ++ ds) := r.append hd
  have hl : (us ++ ds).length = ps.length := by rw [← r2.length]; exact F.len _ _ _ _ h
  refine wpAny_call (codeAny_mono (F.run X.A X.stack s H ⟨us, []⟩ (us ++ ds) (vs ++ dvs) Q E hr I.env0 (hb s us I.kIn hl) r2 h) fun r s' hq => ?_)
  cases r with
  | error e => exact hx pins σ H s e s' I hq
  | ok fl =>
    cases fl with
    | ret u => exact I.after hq
    | next => exact False.elim hq
    | brk => exact False.elim hq
    | cont => exact False.elim hq

theorem pe_call (F : FnOk X.prog X.w X.K X.mg X.base CX k f fd ps sp) (hr : Room k X.A) (hg : Gl X x) (hm : X.mg x = some (.ref f)) (hk : PySem.W.keepIn X.K (.ref f) = true) (hb : Binds X.K fd ps ds) (hd : Vals dvs ds) (hx : Passes CX X E)
    (ha : PA X (e :: es) t) (hdb : (x == ("__debug__" : Str)) = false := by decide) (he : starEach (e :: es) X.env = (false, eval e X.env) :: starEach es X.env := by rfl) (hpl : (backTo pos (starEach es X.env)).any (·.1) = false := by rfl) :
    PE X (.Call (.Name x p) (e :: es) [] pos) (tCall sp dvs E t) := by
  intro pins s σ H Q I h
  refine wpAny_Call_Name_kw (ld_glob I hg hm ?_ hdb)
  refine PySem.W.callWith_K (h₀ := X.base) I.ok.mod.kin hk (thn (ha pos pins s σ H _ I h) fun us s1 ⟨vs, H1, I1, r, q⟩ => ⟨I1.kIn, ?_⟩) he hpl
  exact run_fn F hr hb hd hx I1 r q
theorem pe_call0 (F : FnOk X.prog X.w X.K X.mg X.base CX k f fd ps sp) (hr : Room k X.A) (hg : Gl X x) (hm : X.mg x = some (.ref f)) (hk : PySem.W.keepIn X.K (.ref f) = true) (hb : Binds X.K fd ps ds) (hd : Vals dvs ds) (hx : Passes CX X E)
    (hdb : (x == ("__debug__" : Str)) = false := by decide) : PE X (.Call (.Name x p) [] [] pos) (tCall sp dvs E tNil) := by
  intro pins s σ H Q I h
  refine wpAny_Call_Name_kw (ld_glob I hg hm ?_ hdb)
  exact PySem.W.callWith_K0 I.kIn hk (run_fn (us := []) F hr hb hd hx I .nil h)

/-- o.m(e, ..) -/
theorem pe_meth {pl : Sem Bool} (he : PE X o ta) (c : Cls X.K C) (hm : Meth X.K C m f) (F : FnOk X.prog X.w X.K X.mg X.base CX k f fd ps sp) (hr : Room k X.A) (hb : Binds X.K fd ps ds) (hd : Vals dvs ds) (hx : Passes CX X E) (ha : PA X (e :: es) t)
    (hst : starEach (e :: es) X.env = (false, eval e X.env) :: starEach es X.env := by rfl) (hpl : (backTo pos (starEach es X.env)).any (·.1) = false := by rfl)
    (ht : eval (.Call (.Attribute o m apos) (e :: es) [] pos) X.env = (do
      let ov ← eval o X.env
      standAt apos.atName
      let (f, first) ← holding [ov] (getMethod ov m pl)
      callWith pos f first (backTo pos (starEach (e :: es) X.env)) (backToKw pos (keywordEach [] X.env))) := by rfl) :
    PE X (.Call (.Attribute o m apos) (e :: es) [] pos) (tMeth C m sp dvs E ta t) := by
  intro pins s σ H Q I h
  refine PySem.W.methodCall_KW (pl := pl) (thn (he pins s σ H _ I h) fun u s1 ⟨x, H1, I1, rx, a, dx, fs, ex, ea, l, q⟩ => ?_) ht
  subst ex
  obtain rfl : u = Value.ref a := rx
  refine getmeth_ok I1 ea c hm l ?_
  refine PySem.W.callWith_K (first := [.ref a]) (h₀ := X.base) I.ok.mod.kin hm.kp (thn (ha pos pins s1 σ H1 _ I1 q) fun us s2 ⟨vs, H2, I2, r, q2⟩ => ⟨I2.kIn, ?_⟩) hst hpl
  exact run_fn (us := .ref a :: us) (vs := .ref a :: vs) F hr hb hd hx I2 (.cons rfl r) q2
/-- o.m() -/
theorem pe_meth0 {pl : Sem Bool} (he : PE X o ta) (c : Cls X.K C) (hm : Meth X.K C m f) (F : FnOk X.prog X.w X.K X.mg X.base CX k f fd ps sp) (hr : Room k X.A) (hb : Binds X.K fd ps ds) (hd : Vals dvs ds) (hx : Passes CX X E)
    (ht : eval (.Call (.Attribute o m apos) [] [] pos) X.env = (do
      let ov ← eval o X.env
      standAt apos.atName
      let (f, first) ← holding [ov] (getMethod ov m pl)
      callWith pos f first (backTo pos (starEach [] X.env)) (backToKw pos (keywordEach [] X.env))) := by rfl) :
    PE X (.Call (.Attribute o m apos) [] [] pos) (tMeth C m sp dvs E ta tNil) := by
  intro pins s σ H Q I h
  refine PySem.W.methodCall_KW (pl := pl) (thn (he pins s σ H _ I h) fun u s1 ⟨x, H1, I1, rx, a, dx, fs, ex, ea, l, q⟩ => ?_) ht
  subst ex
  obtain rfl : u = Value.ref a := rx
  refine getmeth_ok I1 ea c hm l ?_
  exact PySem.W.callWith_K0 (first := [.ref a]) I1.kIn hm.kp (run_fn (us := [.ref a]) (vs := [.ref a]) F hr hb hd hx I1 (.cons rfl .nil) q)

/-- what a class must have to be made -/
structure Mk (K : PySem.W.Frag) (C f : Addr) : Prop where
  makes : PySem.W.makesIn K C = true
  init : PySem.W.findIn K (.ref C) "__init__" = some (some (.ref f))
  fn : PySem.W.isFn K (.ref f) = true
  kp : PySem.W.keepIn K (.ref C) = true

theorem run_make {pins : List (Addr × Obj)} {σ : St} {H : Hp} {s : Shared} {Q : VK} {us : List Value} {vs : List V} (M : Mk X.K C f) (F : FnOk X.prog X.w X.K X.mg X.base CX k f fd ps sp) (hr : Room (k + 1) X.A) (hb : Binds X.K fd ps ds) (hd : Vals dvs ds)
    (hx : Passes CX X E) (I : Inv X pins σ H s) (r : Vals vs us)
    (h : ∀ x dx, H x = none → H dx = none → dx ≠ x → sp (.ref x :: (vs ++ dvs)) (upd (upd H dx (.own x)) x (.ins C dx [])) (fun v H2 => v = .non ∧ Q (.ref x) H2) E) :
    wpAny (model X.prog X.w) X.A (call (.ref C) us) (EP X pins σ Q) X.xe s := by
  have hq := h (s.heap.objs.size + 1) s.heap.objs.size (I.hok.fresh (Nat.le_succ _)) (I.hok.fresh (Nat.le_refl _)) (Nat.ne_of_lt (Nat.lt_succ_self _))
  have I2 := Inv.made (C := C) I
  have r2 : Vals (V.ref (s.heap.objs.size + 1) :: (vs ++ dvs)) (Value.ref (s.heap.objs.size + 1) :: (us ++ ds)) := .cons rfl (r.append hd)
  have hl : (Value.ref (s.heap.objs.size + 1) :: us ++ ds).length = ps.length := by
    have e := r2.length
    rw [F.len _ _ _ _ hq] at e
    exact e.symm
  refine wpAny_call (make_map (f := f) I.kIn M.makes M.init (beq_iff_eq.mp M.fn) (codeAny_mono (F.run _ X.stack _ _ ⟨Value.ref (s.heap.objs.size + 1) :: us, []⟩ (Value.ref (s.heap.objs.size + 1) :: (us ++ ds)) _ _ E (hr.make C us [])
    (I2.env0.make C us []) (hb _ (Value.ref (s.heap.objs.size + 1) :: us) I2.kIn hl) r2 hq) fun r s' hq' => ?_))
  cases r with
  | error e => exact hx pins σ _ _ e s' I2 hq'
  | ok fl =>
    cases fl with
    | ret u =>
      obtain ⟨v, H', I3, rv, ev, q3⟩ := I2.after hq'
      subst ev
      exact ⟨rv, ⟨V.ref (s.heap.objs.size + 1), H', I3, rfl, q3⟩⟩
    | next => exact False.elim hq'
    | brk => exact False.elim hq'
    | cont => exact False.elim hq'
theorem pe_make (M : Mk X.K C f) (F : FnOk X.prog X.w X.K X.mg X.base CX k f fd ps sp) (hr : Room (k + 1) X.A) (hg : Gl X x) (hm : X.mg x = some (.ref C)) (hb : Binds X.K fd ps ds) (hd : Vals dvs ds) (hx : Passes CX X E)
    (ha : PA X (e :: es) t) (hdb : (x == ("__debug__" : Str)) = false := by decide) (he : starEach (e :: es) X.env = (false, eval e X.env) :: starEach es X.env := by rfl) (hpl : (backTo pos (starEach es X.env)).any (·.1) = false := by rfl) :
    PE X (.Call (.Name x p) (e :: es) [] pos) (tMake C sp dvs E t) := by
  intro pins s σ H Q I h
  refine wpAny_Call_Name_kw (ld_glob I hg hm ?_ hdb)
  refine PySem.W.callWith_K (h₀ := X.base) I.ok.mod.kin M.kp (thn (ha pos pins s σ H _ I h) fun us s1 ⟨vs, H1, I1, r, q⟩ => ⟨I1.kIn, ?_⟩) he hpl
  exact run_make M F hr hb hd hx I1 r q
theorem pe_make0 (M : Mk X.K C f) (F : FnOk X.prog X.w X.K X.mg X.base CX k f fd ps sp) (hr : Room (k + 1) X.A) (hg : Gl X x) (hm : X.mg x = some (.ref C)) (hb : Binds X.K fd ps ds) (hd : Vals dvs ds) (hx : Passes CX X E)
    (hdb : (x == ("__debug__" : Str)) = false := by decide) : PE X (.Call (.Name x p) [] [] pos) (tMake C sp dvs E tNil) := by
  intro pins s σ H Q I h
  refine wpAny_Call_Name_kw (ld_glob I hg hm ?_ hdb)
  exact PySem.W.callWith_K0 I.kIn M.kp (run_make (us := []) M F hr hb hd hx I .nil h)
end

/-! ### keywords -/
/-- the values of the keywords, from the left -/
def PK (X : Cx) (kws : List Keyword) (t : TA) : Prop :=
  ∀ (pos : Pos) (pins : List (Addr × Obj)) (s : Shared) (σ : St) (H : Hp) (Q : List V → Hp → Prop), Inv X pins σ H s → t σ H Q → wpAny (model X.prog X.w) X.A (evalAll ((backToKw pos (keywordEach kws X.env)).map (·.2))) (AP X pins σ Q) X.xe s
section
variable {X : Cx} {CX : CXT} {k : Nat} {f C : Addr} {fd : FuncData} {ps ks : List Str} {sp : Sp} {E : XK} {x m : Str} {p pos apos kpos : Pos} {e o : Expr} {es : List Expr} {kws : List Keyword} {te ta : TE} {t tk : TA} {nm : Option Str}
theorem pk_nil : PK X [] tNil := fun _ _ _ _ H Q I h => wpAny_evalAll_nil ⟨[], H, I, .nil, h⟩
theorem pk_cons (ha : PE X e te) (hr : PK X kws t) : PK X (⟨nm, e, kpos⟩ :: kws) (tCons te t) := by
  intro pos pins s σ H Q I h
  show wpAny _ _ (evalAll ((do let v ← eval e X.env; standAt pos; pure v) :: (backToKw pos (keywordEach kws X.env)).map (·.2))) _ _ s
  refine wpAny_evalAll_cons (wpAny_bind (thn (ha pins s σ H _ I h) fun u s1 ⟨x, H1, I1, r1, q1⟩ => wpAny_bind (wpAny_standAt (wpAny_pure ?_))))
  exact thn (hr pos pins s1 σ H1 _ I1 q1) fun us s2 ⟨xs, H2, I2, r2, q2⟩ => ⟨x :: xs, H2, I2, .cons r1 r2, q2⟩

/-- how a call with keywords binds: g puts the positional values us and the keywords' values ws (names ks) in the parameters' order, defaults among them -/
structure KBinds (K : PySem.W.Frag) (fd : FuncData) (ps ks : List Str) (g : List Value → List Value → List Value) (gV : List V → List V → List V) : Prop where
  to : ∀ (s : Shared) (us ws : List Value), K.In s.heap → (g us ws).length = ps.length → BindsTo s fd ⟨us, ks.zip ws⟩ (ps.zip (g us ws))
  rel : ∀ {vs : List V} {us : List Value} {zs : List V} {ws : List Value}, Vals vs us → Vals zs ws → Vals (gV vs zs) (g us ws)
def tCallK (sp : Sp) (gV : List V → List V → List V) (E : XK) (t tk : TA) : TE := fun σ H Q => t σ H fun vs H1 => tk σ H1 fun zs H2 => sp (gV vs zs) H2 Q E
variable {g : List Value → List Value → List Value} {gV : List V → List V → List V}
theorem run_fnk {pins : List (Addr × Obj)} {σ : St} {H : Hp} {s : Shared} {Q : VK} {us ws : List Value} {vs zs : List V} (F : FnOk X.prog X.w X.K X.mg X.base CX k f fd ps sp) (hr : Room k X.A) (hb : KBinds X.K fd ps ks g gV) (hx : Passes CX X E)
    (I : Inv X pins σ H s) (r : Vals vs us) (rz : Vals zs ws) (h : sp (gV vs zs) H Q E) : wpAny (model X.prog X.w) X.A (call (.ref f) us (ks.zip ws)) (EP X pins σ Q) X.xe s := by
  have r2 := hb.rel r rz
  have hl : (g us ws).length = ps.length := by rw [← r2.length]; exact F.len _ _ _ _ h
  refine wpAny_call (codeAny_mono (F.run X.A X.stack s H ⟨us, ks.zip ws⟩ (g us ws) (gV vs zs) Q E hr I.env0 (hb.to s us ws I.kIn hl) r2 h) fun r s' hq => ?_)
  cases r with
  | error e => exact hx pins σ H s e s' I hq
  | ok fl =>
    cases fl with
    | ret u => exact I.after hq
    | next => exact False.elim hq
    | brk => exact False.elim hq
    | cont => exact False.elim hq
/-- f(e, .., k = v, ..) -/
theorem pe_callK (F : FnOk X.prog X.w X.K X.mg X.base CX k f fd ps sp) (hr : Room k X.A) (hg : Gl X x) (hm : X.mg x = some (.ref f)) (hk : PySem.W.keepIn X.K (.ref f) = true) (hb : KBinds X.K fd ps ks g gV) (hx : Passes CX X E)
    (ha : PA X (e :: es) t) (hkw : PK X kws tk) (hall : (backToKw pos (keywordEach kws X.env)).all (·.1.isSome) = true := by rfl) (hks : (backToKw pos (keywordEach kws X.env)).filterMap (·.1) = ks := by rfl)
    (hdb : (x == ("__debug__" : Str)) = false := by decide) (he : starEach (e :: es) X.env = (false, eval e X.env) :: starEach es X.env := by rfl)
    (hpl : ((backTo pos (starEach (e :: es) X.env)).any (·.1) || (backToKw pos (keywordEach kws X.env)).any (·.1.isNone)) = false := by rfl) :
    PE X (.Call (.Name x p) (e :: es) kws pos) (tCallK sp gV E t tk) := by
  intro pins s σ H Q I h
  refine wpAny_Call_Name_kw (ld_glob I hg hm ?_ hdb)
  refine PySem.W.callWith_KW (h₀ := X.base) I.ok.mod.kin hk hall (thn (ha pos pins s σ H _ I h) fun us s1 ⟨vs, H1, I1, r, q⟩ => ?_) hpl he
  refine thn (hkw pos pins s1 σ H1 _ I1 q) fun ws s2 ⟨zs, H2, I2, rz, q2⟩ => ⟨I2.kIn, ?_⟩
  rw [hks]
  exact run_fnk F hr hb hx I2 r rz q2
end

/-! ### a def's body keeps its promise -/
/-- names: the parameters first -/
structure FnScope (N P : List Str) (sc : Scope) : Prop where
  kind : sc.kind = .function
  co : sc.isCoroutine = false
  gen : sc.isGenerator = false
  nd : N.Nodup
  pre : N.take P.length = P
  par : ∀ x ∈ P, sc.names.lookup x = some .local ∨ sc.names.lookup x = some .cell
  nofree : ∀ y ∈ sc.names, y.2 ≠ .free

theorem bindL_out {kindOf : Str → Option NameKind} {x : Str} : ∀ {binds : List (Str × Value)} {m : Str → Option Value}, (∀ v, (x, v) ∉ binds) → bindL kindOf binds m x = m x
  | [], _, _ => rfl
  | (n, v) :: r, m, h => by
    unfold bindL
    rw [bindL_out fun w hw => h w (List.mem_cons_of_mem _ hw)]
    split
    · have : x ≠ n := by rintro rfl; exact h v List.mem_cons_self
      simp [this]
    · rfl
theorem bindC_out {kindOf : Str → Option NameKind} {x : Str} : ∀ {binds : List (Str × Value)} {m : Str → Option Value}, (∀ v, (x, v) ∉ binds) → bindC kindOf binds m x = m x
  | [], _, _ => rfl
  | (n, v) :: r, m, h => by
    unfold bindC
    rw [bindC_out fun w hw => h w (List.mem_cons_of_mem _ hw)]
    split
    · rfl
    · have : x ≠ n := by rintro rfl; exact h v List.mem_cons_self
      simp [this]
theorem bindL_get {kindOf : Str → Option NameKind} {x : Str} {v : Value} : ∀ {P : List Str} {vs : List Value} {i : Nat} {m : Str → Option Value}, P.Nodup → P[i]? = some x → vs[i]? = some v → kindOf x = some .local →
    bindL kindOf (P.zip vs) m x = some v
  | [], _, _, _, _, h, _, _ => by simp at h
  | _ :: _, [], _, _, _, _, h, _ => by simp at h
  | p :: P, w :: vs, 0, m, nd, h1, h2, hk => by
    simp at h1 h2; subst h1; subst h2
    show bindL kindOf ((p, w) :: P.zip vs) m p = _
    unfold bindL
    rw [bindL_out fun v hv => (List.nodup_cons.mp nd).1 (List.of_mem_zip hv).1, if_pos hk]
    simp
  | p :: P, w :: vs, i + 1, m, nd, h1, h2, hk => by
    show bindL kindOf ((p, w) :: P.zip vs) m x = _
    unfold bindL
    exact bindL_get (i := i) (List.nodup_cons.mp nd).2 (by simpa using h1) (by simpa using h2) hk
theorem bindC_get {kindOf : Str → Option NameKind} {x : Str} {v : Value} : ∀ {P : List Str} {vs : List Value} {i : Nat} {m : Str → Option Value}, P.Nodup → P[i]? = some x → vs[i]? = some v → kindOf x ≠ some .local →
    bindC kindOf (P.zip vs) m x = some v
  | [], _, _, _, _, h, _, _ => by simp at h
  | _ :: _, [], _, _, _, _, h, _ => by simp at h
  | p :: P, w :: vs, 0, m, nd, h1, h2, hk => by
    simp at h1 h2; subst h1; subst h2
    show bindC kindOf ((p, w) :: P.zip vs) m p = _
    unfold bindC
    rw [bindC_out fun v hv => (List.nodup_cons.mp nd).1 (List.of_mem_zip hv).1, if_neg hk]
    simp
  | p :: P, w :: vs, i + 1, m, nd, h1, h2, hk => by
    show bindC kindOf ((p, w) :: P.zip vs) m x = _
    unfold bindC
    exact bindC_get (i := i) (List.nodup_cons.mp nd).2 (by simpa using h1) (by simpa using h2) hk

/-- the names' values at the entry -/
def start (N : List Str) (vs : List V) : St := vs.map some ++ List.replicate (N.length - vs.length) none

/-- the context of a def's body, at its entry; an exception leaves the frame, then lies as CX says -/
def cxOf (CX : CXT) (P : Program) (w : World) (K : PySem.W.Frag) (mg : Str → Option Value) (base : Heap) (N : List Str) (qual : Str) (scope : Scope) (f : Addr) (cd : Value) (A : Around) (outer : List Env) (s : Shared) (H : Hp) (E : XK) : Cx where
  prog := P
  w := w
  K := K
  mg := mg
  base := base
  A := A.deeper (envOfC qual scope s.heap.objs.size f cd)
  N := N
  s₀ := s
  H₀ := H
  env := envOfC qual scope s.heap.objs.size f cd
  outer := outer
  stack := envOfC qual scope s.heap.objs.size f cd :: outer
  ex := []
  calm := true
  fn := fun _ => true
  pn := []
  xe := fun e s' => wpAny (model P w) (A.deeper (envOfC qual scope s.heap.objs.size f cd)) (leaving (envOfC qual scope s.heap.objs.size f cd) e) (fun _ s'' => CX outer H s E e s'') (fun e' s'' => CX outer H s E e' s'') s'

theorem cell_has {sc : Scope} {n : Nat} {x : Str} (h : sc.names.lookup x = some .cell) : ∃ c, (cellsFrom n sc.names []).lookup x = some c := by
  have q := PySem.W.cellsFrom_some sc.names n [] (.inl h)
  exact Option.isSome_iff_exists.mp q

theorem inv_start {CX : CXT} {P : Program} {w : World} {K : PySem.W.Frag} {mg : Str → Option Value} {base : Heap} {N ps : List Str} {qual : Str} {scope : Scope} {f : Addr} {cd : Value} {A : Around} {outer : List Env} {s s1 : Shared} {H : Hp} {E : XK} {us : List Value} {vs : List V}
    (S : FnScope N ps scope) (hd : A.handled = none) (e0 : Env0 P w K mg base A outer s H) (hl : vs.length = ps.length) (r : Vals vs us)
    (x : InCallC s s.heap.objs.size (bindL (envOfC qual scope s.heap.objs.size f cd).kindOf (ps.zip us) fun _ => none) (cellsFrom (s.heap.objs.size + 1) scope.names []) (bindC (envOfC qual scope s.heap.objs.size f cd).kindOf (ps.zip us) fun _ => none) s1) :
    Inv (cxOf CX P w K mg base N qual scope f cd A outer s H E) [] (start N vs) H s1 := by
  have hpl : ps.length ≤ N.length := by have := congrArg List.length S.pre; rw [List.length_take] at this; omega
  obtain ⟨h1, tk, rfl, hk⟩ := x.done
  have noA : ∀ b : Addr, b ∉ (cxOf CX P w K mg base N qual scope f cd A outer s H E).ex := fun b z => absurd (show b ∈ ([] : List Addr) from z) (by simp)
  refine ⟨⟨e0.mod, S.kind, rfl, rfl, Nat.le_refl _, fun y z c h1 h2 => ?_, fun y hy => ?_, fun y c _ h => ?_, fun _ => hd, Around.frames_deeper e0.frames, .inr ⟨rfl, rfl⟩, fun b z => absurd z (noA b), e0.bs, e0.bsz, fun b _ _ => noA b, fun b z => absurd z (noA b), e0.funs, e0.frf⟩,
    rfl, e0.bare, Un.kept hk, ⟨_, x.toInCall.ns, fun i y v h1 h2 h3 => ?_⟩, fun y c h => ⟨_, x.cell y c h⟩, e0.hok.fresh (Nat.le_refl _), fun y c h => ?_, fun p hp => absurd (show p ∈ ([] : List (Addr × Obj)) from hp) (by simp), e0.hok.kept hk, ?_⟩
  · exact name_of_addr x.apart (PySem.mem_of_lookup h1) (PySem.mem_of_lookup h2)
  · have hy : scope.names.lookup y = some .cell ∨ scope.names.lookup y = some .free := hy
    rcases hy with hy | hy
    · exact cell_has hy
    · exact absurd rfl (S.nofree _ (PySem.mem_of_lookup hy))
  · exact Nat.le_of_lt (x.above y c (PySem.mem_of_lookup h))
  · have hi : i < vs.length := by
      unfold start at h2
      by_cases hi : i < vs.length
      · exact hi
      · rw [List.getElem?_append_right (by simpa using hi)] at h2
        rw [List.getElem?_replicate] at h2
        split at h2 <;> cases h2
    have ha : vs[i]? = some v := by
      unfold start at h2
      rw [List.getElem?_append_left (by simpa using hi), List.getElem?_map] at h2
      cases e : vs[i]? with
      | none => rw [e] at h2; cases h2
      | some a => rw [e] at h2; cases h2; rfl
    obtain ⟨u, hu, rv⟩ := r.get ha
    have hp : ps[i]? = some y := by
      rw [← S.pre, List.getElem?_take_of_lt (by omega)]; exact h1
    have ndP : ps.Nodup := by rw [← S.pre]; exact S.nd.sublist (List.take_sublist _ _)
    refine ⟨u, rv, ?_⟩
    rcases S.par y (List.mem_of_getElem? hp) with k | k
    · exact .inl ⟨k, bindL_get ndP hp hu k⟩
    · obtain ⟨c, e⟩ := cell_has (n := s.heap.objs.size + 1) k
      refine .inr ⟨.inl k, c, e, ?_⟩
      have q := x.cell y c e
      rw [bindC_get ndP hp hu (by show scope.names.lookup y ≠ _; rw [k]; decide)] at q
      exact q
  · exact e0.hok.fresh (Nat.le_of_lt (x.above y c (PySem.mem_of_lookup h)))
  · unfold start
    show _ = N.length
    rw [List.length_append, List.length_map, List.length_replicate]
    omega

/-- THE RULE: a def (or a method) of the text, by its body. The body's reading t is chosen for each entry; it is run at the parameters' values -/
theorem fn_of {CX : CXT} {P : Program} {w : World} {K : PySem.W.Frag} {mg : Str → Option Value} {base : Heap} {k : Nat} {f : Addr} {name qual : Str} {params : Arguments} {body : List Stmt} {scope : Scope} {dV kV doc pm cdv ct oc : Value} {an od : Option Addr}
    {osl : Array (Option Value)} {N ps : List Str} {sp : Sp} (lk : K.lookup f = some ⟨oc, od, .func (PySem.W.fnOf name qual params body scope dV kV doc pm an cdv ct), osl⟩) (hcd : PySem.W.codeIn K cdv qual = true) (S : FnScope N ps scope)
    (len : ∀ vs H Q E, sp vs H Q E → vs.length = ps.length)
    (hbody : ∀ (A : Around) (outer : List Env) (s : Shared) (H : Hp) (vs : List V) (Q : VK) (E : XK), Room k (A.deeper (envOfC qual scope s.heap.objs.size f cdv)) → sp vs H Q E →
      ∃ t, PSs (cxOf CX P w K mg base N qual scope f cdv A outer s H E) body t ∧ t { nx := fun _ H' => Q .non H', rt := Q } (start N vs) H) :
    FnOk P w K mg base CX (k + 1) f (PySem.W.fnOf name qual params body scope dV kV doc pm an cdv ct) ps sp := by
  refine ⟨len, fun A outer s H args us vs Q E hr e0 hb r hsp => ?_⟩
  have hl := len _ _ _ _ hsp
  have KX : K.In s.heap := e0.mod.kin.keeps fun b o e => (e0.bs b o e).1
  have lim : s.heap.NoLimit := e0.mod.nolimit.keeps fun b o e => (e0.bs b o e).1
  have hkind : ∀ y ∈ ps.zip us, scope.names.lookup y.1 = some .local ∨ (scope.names.lookup y.1 = some .cell ∧ ((cellsFrom (s.heap.objs.size + 1) scope.names []).lookup y.1).isSome = true) := fun ⟨n, v⟩ hy => by
    rcases S.par n (List.of_mem_zip hy).1 with q | q
    · exact .inl q
    · exact .inr ⟨q, PySem.W.cellsFrom_some _ _ _ (.inl q)⟩
  refine codeAny_call_function hr.depth (KX _ _ lk) rfl S.co S.gen rfl (PySem.W.codeRec_of KX hcd) (hb _ _ _ _ ?_)
  refine wpAny_newFunctionEnv_cells S.kind hkind fun env he s1 x => ?_
  subst he
  refine ⟨lim.keeps x.toInCall.keep, codeAny_func ?_⟩
  obtain ⟨t, ht, hq⟩ := hbody A outer s H vs Q E (hr.deeper _) hsp
  have I : Inv (cxOf CX P w K mg base N qual scope f cdv A outer s H E) [] (start N vs) H s1 := inv_start S hr.hd e0 hl r x
  refine wpAny_mono (ht [] s1 (start N vs) H _ I hq) (fun fl s' hs => ?_) fun e s' hs => hs
  have fin : ∀ {σ' : St} {H' : Hp} {v : V} {u : Value}, Inv (cxOf CX P w K mg base N qual scope f cdv A outer s H E) [] σ' H' s' → RelV v u → Q v H' → CE outer P w H s Q u s' :=
    fun {σ' H' v u} J rv q => ⟨v, H', J.os, J.bare, J.base, J.hok, rv, q⟩
  cases fl with
  | ret u =>
    obtain ⟨v, σ', H', J, rv, q⟩ := hs
    exact fin J rv q
  | next =>
    obtain ⟨σ', H', J, q⟩ := hs
    exact fin (v := V.non) (u := Value.none) J rfl q
  | brk =>
    obtain ⟨_, _, _, q⟩ := hs
    exact False.elim q
  | cont =>
    obtain ⟨_, _, _, q⟩ := hs
    exact False.elim q
end L2

namespace L2
open PySem PySem.Spec PyProof.Rows
section
variable {X : Cx} {x : Str} {p pos : Pos} {e : Expr} {es : List Expr} {t : TA} {id T : String} {r : List V → Hp → VK → Prop}

def tCB (r : List V → Hp → VK → Prop) (t : TA) : TE := fun σ H Q => t σ H fun vs H1 => r vs H1 Q
/-- f(e, ..), f a built-in function -/
theorem pe_callB (hc : CallR X (.builtin id) r) (hg : Gl X x) (hm : X.mg x = none) (hv : bootBuiltins x = some (.builtin id)) (ha : PA X (e :: es) t) (hn : x ≠ "__name__" := by decide) (hdb : (x == ("__debug__" : Str)) = false := by decide)
    (he : starEach (e :: es) X.env = (false, eval e X.env) :: starEach es X.env := by rfl) (hpl : (backTo pos (starEach es X.env)).any (·.1) = false := by rfl) : PE X (.Call (.Name x p) (e :: es) [] pos) (tCB r t) := by
  intro pins s σ H Q I h
  refine wpAny_Call_Name_kw (ld_blt I hg hm hv ?_ hn hdb)
  exact PyProof.Rows.callWith_builtin1 (thn (ha pos pins s σ H _ I h) fun us s1 ⟨vs, H1, I1, r1, q1⟩ => hc pins s1 σ H1 vs us Q I1 r1 q1) he hpl
/-- T(e, ..), T a built-in type -/
theorem pe_callTy (hc : CallR X (.type T) r) (hg : Gl X x) (hm : X.mg x = none) (hv : bootBuiltins x = some (.type T)) (ha : PA X (e :: es) t) (hn : x ≠ "__name__" := by decide) (hdb : (x == ("__debug__" : Str)) = false := by decide)
    (he : starEach (e :: es) X.env = (false, eval e X.env) :: starEach es X.env := by rfl) (hpl : (backTo pos (starEach es X.env)).any (·.1) = false := by rfl) : PE X (.Call (.Name x p) (e :: es) [] pos) (tCB r t) := by
  intro pins s σ H Q I h
  refine wpAny_Call_Name_kw (ld_blt I hg hm hv ?_ hn hdb)
  exact PyProof.Rows.callWith_type1 (thn (ha pos pins s σ H _ I h) fun us s1 ⟨vs, H1, I1, r1, q1⟩ => hc pins s1 σ H1 vs us Q I1 r1 q1) he hpl
/-- T() -/
theorem pe_callTy0 (hc : CallR X (.type T) r) (hg : Gl X x) (hm : X.mg x = none) (hv : bootBuiltins x = some (.type T)) (hn : x ≠ "__name__" := by decide) (hdb : (x == ("__debug__" : Str)) = false := by decide) :
    PE X (.Call (.Name x p) [] [] pos) (tCB r tNil) := by
  intro pins s σ H Q I h
  refine wpAny_Call_Name_kw (ld_blt I hg hm hv ?_ hn hdb)
  exact PyProof.Rows.callWith_type0 (hc pins s σ H [] [] Q I .nil h)
end
end L2

namespace HT
open PySem PyProof.Rows

/-- t < u of tuples of ints -/
def lexLt : List Int → List Int → Bool
  | [], [] => false
  | [], _ :: _ => true
  | _ :: _, [] => false
  | x :: xs, y :: ys => if x = y then lexLt xs ys else decide (x < y)
theorem lexLt_cons (x y : Int) (xs ys : List Int) : lexLt (x :: xs) (y :: ys) = if x = y then lexLt xs ys else decide (x < y) := rfl
theorem lexLt_nil_nil : lexLt [] [] = false := rfl
theorem lexLt_nil_cons (y : Int) (ys : List Int) : lexLt [] (y :: ys) = true := rfl
theorem lexLt_cons_nil (x : Int) (xs : List Int) : lexLt (x :: xs) [] = false := rfl

theorem eqAt_int (A : Around) (s : Shared) (a : Int) (t : Tok) (c : Int) (u : Tok) : ∃ e, SeqAt.EqAt A s (.int a t) (.int c u) e ∧ (e = true ↔ a = c) :=
  ⟨(a == c), SeqAt.EqAt.int_int a t c u, by simp⟩
theorem rcLt_int (A : Around) (s : Shared) (a : Int) (t : Tok) (c : Int) (u : Tok) (prog : Program) (w : World) (E : Value → Shared → Prop) (Q : Value → Shared → Prop) (h : Q (.bool (decide (a < c))) s) :
    wpAny (model prog w) A (richCompare .Lt (.int a t) (.int c u)) Q E s :=
  (PyProof.Rows.lt_int h : wpAny (model prog w) A (compareOp .Lt (.int a t) (.int c u)) Q E s)

section
open PySem.SeqAt
open PySem.AutoSeq1 (wpAny_loadPart')
open PySem.MeetsSeq PySem.MeetsSeq2 PySem.MeetsSeq3

theorem tuple_lt_ints (l b : Addr) (items items2 : Array Value) (n n2 : Nat) (dd dd2 : Option Addr) (sl sl2 : Array (Option Value)) (ns ms : List Int) (hi : IntsAre items.toList ns) (hj : IntsAre items2.toList ms) :
    Meets (Builtin.«tuple.__lt__» ⟨[.ref l, .ref b], []⟩)
      (fun _ R s => s.heap.get? l = some { cls := .type "tuple", dict := dd, data := .seq items n, slots := sl } ∧ s.heap.get? b = some { cls := .type "tuple", dict := dd2, data := .seq items2 n2, slots := sl2 } ∧
        R (.ok (.ret (.bool (lexLt ns ms)))) s) :=
  .of_wp fun prog w A R s h => by
    obtain ⟨hp, g, d, tk, os⟩ := s; obtain ⟨hl, hb, h⟩ := h
    have f2 := AutoSeq1.sub_tuple_tuple
    have z1 : items.size = ns.length := by rw [← hi.length]; simp
    have z2 : items2.size = ms.length := by rw [← hj.length]; simp
    wp_walk using wpAny_loadPart' hl, wpAny_loadPart' hb, wpAny_forIn_list _ (fun rest b s' => b.1 = none ∧ s' = ⟨hp, g, d, tk, os⟩ ∧ ∃ (vs ws : List Value) (ns' ms' : List Int), rest = vs.zip ws ∧
      IntsAre vs ns' ∧ IntsAre ws ms' ∧ ns'.length + items2.size = ms'.length + items.size ∧ R (.ok (.ret (.bool (lexLt ns' ms')))) ⟨hp, g, d, tk, os⟩) _
    case turn =>
      rintro ⟨y, x⟩ rest b s' ⟨hb', rfl, vs, ws, ns', ms', hz, hvi, hwi, hlen, hR⟩
      cases hvi with
      | nil => rw [List.zip_nil_left] at hz; cases hz
      | cons a t hvi' =>
        cases hwi with
        | nil => rw [List.zip_nil_right] at hz; cases hz
        | cons c u hwi' =>
          rw [List.zip_cons_cons] at hz
          injection hz with hyx hrest
          injection hyx with hy hx
          subst hy hx
          rw [lexLt_cons] at hR
          simp only [List.length_cons] at hlen
          obtain ⟨e, he, hiff⟩ := eqAt_int A.in1 ⟨hp, g, d, tk, os⟩ a t c u
          refine wpAny_bind (he prog w _ _ ?_)
          cases e with
          | true =>
            rw [if_pos (hiff.mp rfl)] at hR
            wp_walk
            exact ⟨rfl, rfl, _, _, _, _, hrest, hvi', hwi', by omega, hR⟩
          | false =>
            rw [if_neg (fun q => absurd (hiff.mpr q) Bool.false_ne_true)] at hR
            have hri := rcLt_int A.in1 ⟨hp, g, d, tk, os⟩ a t c u prog w
            wp_walk using hri
            exact ⟨_, rfl, by simpa using hR⟩
    case fin =>
      rintro ⟨b1, b2⟩ s' ⟨hb', rfl, vs, ws, ns', ms', hz, hvi, hwi, hlen, hR⟩
      simp only at hb'
      subst hb'
      have hv : lexLt ns' ms' = decide (items.size < items2.size) := by
        cases hvi with
        | nil =>
          cases hwi with
          | nil =>
            simp only [List.length_nil] at hlen
            rw [lexLt_nil_nil]
            exact (decide_eq_false (by omega)).symm
          | cons c u hw =>
            simp only [List.length_nil, List.length_cons] at hlen
            rw [lexLt_nil_cons]
            exact (decide_eq_true (by omega)).symm
        | cons a t hv =>
          cases hwi with
          | nil =>
            simp only [List.length_nil, List.length_cons] at hlen
            rw [lexLt_cons_nil]
            exact (decide_eq_false (by omega)).symm
          | cons c u hw =>
            rw [List.zip_cons_cons] at hz
            cases hz
      rw [hv] at hR
      wp_walk
      exact ⟨_, rfl, by simpa [Builtin.Tuple.tupleCompareSizes] using hR⟩
    case h =>
      exact ⟨rfl, rfl, items.toList, items2.toList, ns, ms, rfl, hi, hj, by omega, h⟩
end

section
variable {prog : Program} {w : World} {A : Around} {E : Value → Shared → Prop} {s : Shared}

theorem lt_tupInts {l b : Addr} {items items2 : Array Value} {ns ms : List Int} {Q : Value → Shared → Prop} (hl : IsTup s.heap l items) (hb : IsTup s.heap b items2) (hi : IntsAre items.toList ns) (hj : IntsAre items2.toList ms)
    (hu : A.units < cLine) (h : Q (.bool (lexLt ns ms)) s) : wpAny (model prog w) A (compareOp .Lt (.ref l) (.ref b)) Q E s := by
  obtain ⟨⟨cls, dd, data, sl⟩, ho, hc, n, hd⟩ := id hl
  obtain ⟨⟨cls2, dd2, data2, sl2⟩, ho2, hc2, n2, hd2⟩ := id hb
  simp only at hc hd hc2 hd2
  subst hc hd hc2 hd2
  exact richCompare_meets_room (op := .Lt) ⟨_, ho, rfl⟩ ⟨_, ho2, rfl⟩ PySem.F.slot_tuple_lt PySem.F.entry_tuple_lt (PySem.F.args_tuple_lt_2 _ _) (tuple_lt_ints l b items items2 n n2 dd dd2 sl sl2 ns ms hi hj)
    ⟨ho, ho2, show Value.bool (lexLt ns ms) ≠ Value.notImplemented ∧ Q (.bool (lexLt ns ms)) s from ⟨(fun x => nomatch x), h⟩⟩ hu

/-- t + u, t not empty -/
theorem cat_tup {t b : Addr} {vs ws : List Value} {Q : Value → Shared → Prop} (ht : IsTup s.heap t vs.toArray) (hb : IsTup s.heap b ws.toArray) (hv : vs ≠ [])
    (h1 : ws = [] → Q (.ref t) s) (h2 : ws ≠ [] → Q (.ref s.heap.objs.size) { s with heap := s.heap.push { cls := .type "tuple", data := .seq (vs ++ ws).toArray } })
    (hsz : vs.length + ws.length ≤ sizeLine) : wpAny (model prog w) A (binaryOp .Add (.ref t) (.ref b)) Q E s := by
  obtain ⟨⟨cls, dd, data, sl⟩, ho, hc, n, hd⟩ := id ht
  obtain ⟨⟨cls2, dd2, data2, sl2⟩, ho2, hc2, n2, hd2⟩ := id hb
  simp only at hc hd hc2 hd2
  subst hc hd hc2 hd2
  have e : vs.toArray ++ ws.toArray = (vs ++ ws).toArray := by simp
  by_cases hw : ws = []
  · exact concat_meets ⟨_, ho, rfl⟩ ⟨_, ho2, rfl⟩ noFill_tuple_add seq_tuple_add PySem.F.slot_tuple_add PySem.F.entry_tuple_add (PySem.F.args_tuple_add_2 _ _)
      (tuple_addW1 t b vs.toArray ws.toArray n n2 dd dd2 sl sl2 (by simpa using hv) (by simp [hw])) ⟨ho, ho2, h1 hw⟩
  · refine concat_meets ⟨_, ho, rfl⟩ ⟨_, ho2, rfl⟩ noFill_tuple_add seq_tuple_add PySem.F.slot_tuple_add PySem.F.entry_tuple_add (PySem.F.args_tuple_add_2 _ _)
      (tuple_addW2 t b vs.toArray ws.toArray n n2 dd dd2 sl sl2 (by simpa using hv) (by simpa using hw) (by rw [List.size_toArray, List.size_toArray]; exact hsz)) ⟨ho, ho2, ?_⟩
    rw [e]
    exact h2 hw

/-! ### t[a:b], not the whole -/
/-- a slice's bound as a place among n (d where it is left out) -/
def sIx (n d : Nat) : Option Int → Nat
  | none => d
  | some v => if v < 0 then (v + (n : Int)).toNat else min v.toNat n
theorem sIx_none (n d : Nat) : sIx n d none = d := rfl
theorem sIx_nat (n d k : Nat) : sIx n d (some (k : Int)) = min k n := by
  show (if (k : Int) < 0 then ((k : Int) + (n : Int)).toNat else min (k : Int).toNat n) = min k n
  rw [if_neg (by omega), Int.toNat_natCast]
theorem sIx_le (n d : Nat) (hd : d ≤ n) (o : Option Int) : sIx n d o ≤ n := by
  cases o with
  | none => exact hd
  | some v =>
    show (if v < 0 then (v + (n : Int)).toNat else min v.toNat n) ≤ n
    by_cases hv : v < 0
    · rw [if_pos hv]; omega
    · rw [if_neg hv]; exact Nat.min_le_right _ _
theorem clip_eq (v : Int) (n d : Nat) : (if v < 0 then max (v + (n : Int)) 0 else min v (n : Int)) = ((sIx n d (some v) : Nat) : Int) := by
  show (if v < 0 then max (v + (n : Int)) 0 else min v (n : Int)) = (((if v < 0 then (v + (n : Int)).toNat else min v.toNat n) : Nat) : Int)
  by_cases hv : v < 0
  · simp only [if_pos hv]; omega
  · simp only [if_neg hv]; omega
theorem adjust_gen (lo hi : Option Int) (n : Nat) : Builtin.Slice.sliceAdjust lo hi 1 (n : Int) = (((sIx n 0 lo : Nat) : Int), ((sIx n n hi : Nat) : Int)) := by
  have h1 : ¬ ((1 : Int) < 0) := by omega
  unfold Builtin.Slice.sliceAdjust
  simp only [h1, if_false]
  refine Prod.ext ?_ ?_
  · cases lo with
    | none => rfl
    | some v => exact clip_eq v n 0
  · cases hi with
    | none => rfl
    | some v => exact clip_eq v n n
theorem places_gen (i j : Nat) : Builtin.Slice.slicePlaces (i : Int) (j : Int) 1 = j - i := by
  unfold Builtin.Slice.slicePlaces
  have h1 : (1 : Int) > 0 := by omega
  simp only [h1, if_true, Int.ediv_one]
  split <;> omega
theorem slicePart_ {v : Value} {o : Option Int} {Q : Option Int → Shared → Prop} (p : IsPart v o) (h : Q o s) : wpAny (model prog w) A (Builtin.Slice.slicePartIndex v) Q E s := by
  cases p with
  | none => exact slicePart_none h
  | int i t => exact slicePart_int h
theorem sliceApplied_gen {sl : Addr} {vl vu : Value} {lo hi : Option Int} {n : Nat} {Q : Int × Int × Nat → Shared → Prop} (hs : s.heap.IsSliceOf sl vl vu .none) (pl : IsPart vl lo) (pu : IsPart vu hi)
    (h : Q (((sIx n 0 lo : Nat) : Int), 1, sIx n n hi - sIx n 0 lo) s) : wpAny (model prog w) A (Builtin.Slice.sliceApplied (.ref sl) (pure (n : Int))) Q E s := by
  obtain ⟨os, hos, hcs, hds⟩ := id hs
  unfold Builtin.Slice.sliceApplied Builtin.Slice.sliceFields
  refine wpAny_bind (wpAny_bind (wpAny_field hos hds (x := vl) rfl (wpAny_bind (wpAny_field hos hds (x := vu) rfl (wpAny_bind (wpAny_field hos hds (x := .none) rfl (wpAny_pure ?_)))))))
  refine wpAny_bind (slicePart_none ?_)
  show wpAny _ _ (if ((1 : Int) == 0) = true then _ else _) _ _ s
  rw [if_neg (by decide)]
  refine wpAny_bind (slicePart_ pl (wpAny_bind (slicePart_ pu (wpAny_bind (wpAny_pure ?_)))))
  show wpAny _ _ (match Builtin.Slice.sliceAdjust lo hi 1 (n : Int) with | (lo, hi) => pure (lo, (1 : Int), Builtin.Slice.slicePlaces lo hi 1)) _ _ s
  rw [adjust_gen lo hi n]
  show wpAny _ _ (pure (((sIx n 0 lo : Nat) : Int), (1 : Int), Builtin.Slice.slicePlaces ((sIx n 0 lo : Nat) : Int) ((sIx n n hi : Nat) : Int) 1)) _ _ s
  rw [places_gen]
  exact wpAny_pure h
theorem pick_gen (xs : Array Value) (i k : Nat) : ((List.range k).filterMap fun (m : Nat) => xs[((i : Int) + (m : Int) * 1).toNat]?).toArray = ((xs.toList.drop i).take k).toArray := by
  have e : (fun (m : Nat) => xs[((i : Int) + (m : Int) * 1).toNat]?) = fun m => xs[i + m]? := by
    funext m
    have : ((i : Int) + (m : Int) * 1).toNat = i + m := by omega
    rw [this]
  rw [e]
  have := pick_run xs i k
  rw [List.filterMap_map] at this
  have e2 : ((fun x => xs[x]?) ∘ fun x => i + x) = fun m => xs[i + m]? := rfl
  rw [e2] at this
  rw [this]

theorem getItem_tuple_cut {t sl : Addr} {items : Array Value} {vl vu : Value} {lo hi : Option Int} {Q : Value → Shared → Prop} (ht : IsTup s.heap t items) (hs : s.heap.IsSliceOf sl vl vu .none) (pl : IsPart vl lo) (pu : IsPart vu hi)
    (hw : ¬ (sIx items.size 0 lo = 0 ∧ sIx items.size items.size hi = items.size))
    (h : Q (.ref s.heap.objs.size) { s with heap := s.heap.push { cls := .type "tuple", data := .seq ((items.toList.drop (sIx items.size 0 lo)).take (sIx items.size items.size hi - sIx items.size 0 lo)).toArray } })
    (hsz : items.size ≤ sizeLine) : wpAny (model prog w) A (getItem (.ref t) (.ref sl)) Q E s := by
  have htake : sizeOk (.seq ((items.toList.drop (sIx items.size 0 lo)).take (sIx items.size items.size hi - sIx items.size 0 lo)).toArray) := by
    show ((items.toList.drop (sIx items.size 0 lo)).take (sIx items.size items.size hi - sIx items.size 0 lo)).toArray.size ≤ sizeLine
    rw [List.size_toArray, List.length_take, List.length_drop, Array.length_toList]
    omega
  have hj : sIx items.size items.size hi ≤ items.size := sIx_le _ _ (Nat.le_refl _) hi
  obtain ⟨os, hos, hcs, hds⟩ := id hs
  have hTs : s.TypeIs (.ref sl) "slice" := ⟨os, hos, hcs⟩
  unfold getItem
  try with_reducible refine wpAny_holding ?_
  first | refine wpAny_bind (wpAny_pure ?_) | skip
  refine wpAny_bind (wpAny_sequenceKey ht.typeIs (by decide) ?_)
  refine wpAny_bind (wpAny_callSpecial?_slot (name := Str.ofString "__getitem__") ht.typeIs PyProof.Rows.slot_tuple_getitem
    (wpAny_call_entry PyProof.Rows.slot_tuple_getitem ht.typeIs entry_tuple_getitem ?_ (args_tuple_getitem _ _)))
  show wpAny _ _ (Builtin.Tuple.tupleItemsOf (.ref t) >>= _) _ _ s
  refine wpAny_bind (tupleItemsOf_ ht ?_)
  refine wpAny_bind (wpAny_typeOf hTs ?_)
  rw [if_pos (by decide)]
  refine wpAny_bind (sliceApplied_gen hs pl pu ?_)
  have hno : ¬ ((((sIx items.size 0 lo : Nat) : Int) == 0 && (1 : Int) == 1 && (sIx items.size items.size hi - sIx items.size 0 lo) == items.size) = true) := by
    intro q
    rw [Bool.and_eq_true, Bool.and_eq_true] at q
    have q1 : ((sIx items.size 0 lo : Nat) : Int) = 0 := eq_of_beq q.1.1
    have q2 : sIx items.size items.size hi - sIx items.size 0 lo = items.size := eq_of_beq q.2
    exact hw ⟨by omega, by omega⟩
  show wpAny _ _ (if (((sIx items.size 0 lo : Nat) : Int) == 0 && (1 : Int) == 1 && (sIx items.size items.size hi - sIx items.size 0 lo) == items.size) = true then _ else _) _ _ s
  rw [if_neg hno, pick_gen]
  first
    | exact wpAny_bind (m := Builtin.Tuple.tupleExact _) (wpAny_newObj_type (wpAny_pure ⟨_, rfl, wpAny_pure h⟩) htake)
    | exact wpAny_bind (m := Builtin.Tuple.tupleExact _) (wpAny_newObj_type (wpAny_bind (wpAny_pure (wpAny_pure ⟨_, rfl, wpAny_pure h⟩))) htake)
    | exact wpAny_bind (wpAny_bind (m := Builtin.Tuple.tupleExact _) (wpAny_newObj_type (wpAny_pure (wpAny_pure ⟨_, rfl, wpAny_pure h⟩)) htake))
    | exact wpAny_bind (wpAny_bind (m := Builtin.Tuple.tupleExact _) (wpAny_newObj_type (wpAny_pure ⟨_, rfl, wpAny_pure h⟩) htake))
end
end HT

namespace L2
open PySem PySem.Spec PyProof.Rows

/-! ### the parts of a slice -/
abbrev TO := St → Hp → (Option Int → Hp → Prop) → Prop
/-- a slice's part (left out, or an int) -/
def PO (X : Cx) (e : Option Expr) (t : TO) : Prop :=
  ∀ (pins : List (Addr × Obj)) (s : Shared) (σ : St) (H : Hp) (Q : Option Int → Hp → Prop), Inv X pins σ H s → t σ H Q →
    wpAny (model X.prog X.w) X.A (evalPart e X.env) (fun u s' => ∃ o H', Inv X pins σ H' s' ∧ IsPart u o ∧ Q o H') X.xe s
def tNoPart : TO := fun _ H Q => Q none H
def tPart (t : TE) : TO := fun σ H Q => t σ H fun x H1 => ∃ i, x = .int i ∧ Q (some i) H1

theorem intsAre_of {ns : List Int} : ∀ {us : List Value}, Vals (ns.map V.int) us → IntsAre us ns := by
  induction ns with
  | nil => intro us r; rw [List.map_nil] at r; cases r; exact .nil
  | cons n ns ih =>
    intro us r
    rw [List.map_cons] at r
    cases r with
    | cons r1 r2 =>
      obtain ⟨t, e⟩ := r1
      subst e
      exact .cons n t (ih r2)

section
variable {X : Cx} {e : Expr} {te : TE} {lo hi : Option Expr} {tl th : TO} {pos p2 : Pos}

theorem po_none : PO X none tNoPart := by
  intro pins s σ H Q I h
  rw [evalPart_none]
  exact wpAny_pure ⟨none, H, I, .none, h⟩
theorem po_some (h : PE X e te) : PO X (some e) (tPart te) := by
  intro pins s σ H Q I hw
  rw [evalPart_some]
  refine thn (h pins s σ H _ I hw) fun u s1 ⟨x, H1, I1, r1, q1⟩ => ?_
  obtain ⟨i, rfl, q⟩ := q1
  obtain ⟨t, rfl⟩ := r1
  exact ⟨some i, H1, I1, .int i t, q⟩

/-- what a slice of a value is, by values: the slice object stands at sl -/
def SlR (X : Cx) (r : V → Option Int → Option Int → Hp → VK → Prop) : Prop :=
  ∀ (pins : List (Addr × Obj)) (s : Shared) (σ : St) (H : Hp) (x : V) (v vl vu : Value) (lo hi : Option Int) (sl : Addr) (Q : VK), Inv X pins σ H s → RelV x v → s.heap.IsSliceOf sl vl vu .none → IsPart vl lo → IsPart vu hi → r x lo hi H Q →
    ∃ T id, typeLookup (.type T) "__getitem__" = pure (some (.builtin id)) ∧ s.TypeIs v T ∧ wpAny (model X.prog X.w) X.A (getItem v (.ref sl)) (EP X pins σ Q) X.xe s
theorem SlR.or {r r' : V → Option Int → Option Int → Hp → VK → Prop} (h : SlR X r) (h' : SlR X r') : SlR X (fun x lo hi H Q => r x lo hi H Q ∨ r' x lo hi H Q) := by
  intro pins s σ H x v vl vu lo hi sl Q I rx hs pl pu q
  rcases q with q | q
  · exact h pins s σ H x v vl vu lo hi sl Q I rx hs pl pu q
  · exact h' pins s σ H x v vl vu lo hi sl Q I rx hs pl pu q
def tSl (r : V → Option Int → Option Int → Hp → VK → Prop) (te : TE) (tl th : TO) : TE := fun σ H Q => te σ H fun x H1 => tl σ H1 fun l H2 => th σ H2 fun u H3 => r x l u H3 Q
/-- a[lo:hi], any a -/
theorem pe_slice {r : V → Option Int → Option Int → Hp → VK → Prop} (hr : SlR X r) (he : PE X e te) (hl : PO X lo tl) (hu : PO X hi th) : PE X (.Subscript e (.Slice lo hi none p2) pos) (tSl r te tl th) := by
  intro pins s σ H Q I h
  refine Subscript_ (thn (he pins s σ H _ I h) fun v s1 ⟨x, H1, I1, r1, q1⟩ => ?_)
  refine wpAny_Slice (thn (hl pins s1 σ H1 _ I1 q1) fun vl s2 ⟨l, H2, I2, pl, q2⟩ => thn (hu pins s2 σ H2 _ I2 q2) fun vu s3 ⟨u, H3, I3, pu, q3⟩ => ?_)
  rw [evalPart_none]
  refine wpAny_pure ?_
  have I4 : Inv X pins σ H3 { s3 with heap := s3.heap.push { cls := .type "slice", data := .fields #[vl, vu, .none] } } := I3.kept (t' := s3.toks) fun b ob q => Heap.get?_push_of_some _ q
  obtain ⟨T, id, hT, ht, hg⟩ := hr pins { s3 with heap := s3.heap.push { cls := .type "slice", data := .fields #[vl, vu, .none] } } σ H3 x v vl vu l u s3.heap.objs.size Q I4 r1 (Heap.IsSliceOf.new ..) pl pu q3
  show wpAny (model X.prog X.w) X.A (subscriptTail e (.Slice lo hi none p2) v (.ref s3.heap.objs.size)) (EP X pins σ Q) X.xe { s3 with heap := s3.heap.push { cls := .type "slice", data := .fields #[vl, vu, .none] } }
  exact tail_any (ops := [.ref s3.heap.objs.size, v]) ht hT hg (by with_unfolding_all rfl)

/-- the items of xs[lo:hi] -/
def cutV (xs : List V) (lo hi : Option Int) : List V := (xs.drop (HT.sIx xs.length 0 lo)).take (HT.sIx xs.length xs.length hi - HT.sIx xs.length 0 lo)
theorem cutV_length (xs : List V) (lo hi : Option Int) : (cutV xs lo hi).length ≤ xs.length := by
  unfold cutV
  rw [List.length_take, List.length_drop]
  omega
/-- t[lo:hi], not the whole of it (the whole would be t itself) -/
def rSlT (K : PySem.W.Frag) : V → Option Int → Option Int → Hp → VK → Prop := fun x lo hi H Q => ∃ a xs, x = .ref a ∧ SqT K H a xs ∧
  ¬ (HT.sIx xs.length 0 lo = 0 ∧ HT.sIx xs.length xs.length hi = xs.length) ∧ ∀ p, H p = none → Q (.ref p) (upd H p (.tup (cutV xs lo hi)))
theorem sl_tup : SlR X (rSlT X.K) := by
  intro pins s σ H x v vl vu lo hi sl Q I rx hs pl pu h
  obtain ⟨a, xs, rfl, hx, hw, q⟩ := h
  cases rx
  obtain ⟨its, r, ht, hz⟩ := I.tuple hx
  have hlen : its.toArray.size = xs.length := by rw [List.size_toArray]; exact r.length.symm
  refine ⟨"tuple", _, PyProof.Rows.slot_tuple_getitem.lookup, ht.typeIs, ?_⟩
  refine HT.getItem_tuple_cut ht hs pl pu (by rw [hlen]; exact hw) ?_ (by rw [hlen]; exact hz)
  rw [hlen]
  refine ⟨.ref s.heap.objs.size, _, I.laid (t' := s.toks) (o := .tup (cutV xs lo hi)) (fun b ob q => Heap.get?_push_of_some _ q) (Nat.le_refl _) ?_, rfl, q _ (I.hok.fresh (Nat.le_refl _))⟩
  exact ⟨Nat.le_trans (cutV_length xs lo hi) hz, _, (r.drop (HT.sIx xs.length 0 lo)).take (HT.sIx xs.length xs.length hi - HT.sIx xs.length 0 lo), IsTup.new _ _⟩

/-! ### t < u, t + u -/
def rLtT (K : PySem.W.Frag) : R2 := fun x y H Q => ∃ a b ns ms, x = .ref a ∧ y = .ref b ∧ SqT K H a (ns.map V.int) ∧ SqT K H b (ms.map V.int) ∧ Q (.bl (HT.lexLt ns ms)) H
theorem op_ltT (hu : X.A.units < cLine) : OpR X (compareOp .Lt) (rLtT X.K) := by
  intro pins s σ H x y v u Q I rx ry h
  obtain ⟨a, b, ns, ms, rfl, rfl, ha, hb, q⟩ := h
  cases rx
  cases ry
  obtain ⟨its, r1, p1, _⟩ := I.tuple ha
  obtain ⟨its2, r2, p2, _⟩ := I.tuple hb
  have i1 : IntsAre its.toArray.toList ns := intsAre_of r1
  have i2 : IntsAre its2.toArray.toList ms := intsAre_of r2
  exact HT.lt_tupInts p1 p2 i1 i2 hu ⟨.bl (HT.lexLt ns ms), H, I, rfl, q⟩
/-- t + u, t not empty: u empty gives t itself -/
def rCatT (K : PySem.W.Frag) : R2 := fun x y H Q => ∃ a b xs ys, x = .ref a ∧ y = .ref b ∧ SqT K H a xs ∧ SqT K H b ys ∧ xs ≠ [] ∧ xs.length + ys.length ≤ sizeLine ∧
  (ys = [] → Q (.ref a) H) ∧ (ys ≠ [] → ∀ p, H p = none → Q (.ref p) (upd H p (.tup (xs ++ ys))))
theorem Vals.nil_iff {xs : List V} {us : List Value} (r : Vals xs us) : us = [] ↔ xs = [] := by
  cases r with
  | nil => simp
  | cons _ _ => simp
theorem op_catT : OpR X (binaryOp .Add) (rCatT X.K) := by
  intro pins s σ H x y v u Q I rx ry h
  obtain ⟨a, b, xs, ys, rfl, rfl, ha, hb, hx, hz, q1, q2⟩ := h
  cases rx
  cases ry
  obtain ⟨its, r1, p1, _⟩ := I.tuple ha
  obtain ⟨its2, r2, p2, _⟩ := I.tuple hb
  refine HT.cat_tup p1 p2 (fun z => hx (r1.nil_iff.mp z)) (fun z => ⟨.ref a, H, I, rfl, q1 (r2.nil_iff.mp z)⟩) (fun z => ?_) (by rw [← r1.length, ← r2.length]; exact hz)
  refine ⟨.ref s.heap.objs.size, _, I.laid (t' := s.toks) (o := .tup (xs ++ ys)) (fun b ob q => Heap.get?_push_of_some _ q) (Nat.le_refl _) ?_, rfl, q2 (fun w => z (r2.nil_iff.mpr w)) _ (I.hok.fresh (Nat.le_refl _))⟩
  exact ⟨by rw [List.length_append]; exact hz, _, r1.append r2, IsTup.new _ _⟩
/-- tuple(t) -/
theorem call_tupleT : CallR X (.type "tuple") (fun xs H Q => ∃ a ys, xs = [.ref a] ∧ SqT X.K H a ys ∧ Q (.ref a) H) := by
  intro pins s σ H xs us Q I r h
  obtain ⟨a, ys, rfl, ha, q⟩ := h
  obtain ⟨u, rfl, ru⟩ := vals1 r
  cases ru
  obtain ⟨its, _, p1, _⟩ := I.tuple ha
  exact call_tuple_same (items := its.toArray) p1 ⟨.ref a, H, I, rfl, q⟩
end
end L2

namespace L2
open PySem PySem.Spec PyProof.Rows

/-! ### places -/
/-- the place that an index of any sign means -/
def ixN (n : Nat) (i : Int) : Option Nat := if 0 ≤ i then (if i < n then some i.toNat else none) else if -(n : Int) ≤ i then some (i + n).toNat else none
def atI {α : Type} (xs : List α) (i : Int) : Option α := (ixN xs.length i).bind fun j => xs[j]?
theorem ixN_seq {n : Nat} {i : Int} {j : Nat} (h : ixN n i = some j) : seqIndex? i n = some j ∧ j < n ∧ -(n : Int) ≤ i ∧ i < n := by
  unfold ixN at h
  by_cases h0 : 0 ≤ i
  · rw [if_pos h0] at h
    by_cases h1 : i < n
    · rw [if_pos h1] at h
      have e : i.toNat = j := Option.some.inj h
      exact ⟨by rw [seqIndex_of h0 h1, e], by omega, by omega, h1⟩
    · rw [if_neg h1] at h; cases h
  · rw [if_neg h0] at h
    by_cases h1 : -(n : Int) ≤ i
    · rw [if_pos h1] at h
      have e : (i + n).toNat = j := Option.some.inj h
      exact ⟨by rw [seqIndex_neg (by omega) h1, e], by omega, h1, by omega⟩
    · rw [if_neg h1] at h; cases h
theorem atI_get {α : Type} {xs : List α} {i : Int} {v : α} (h : atI xs i = some v) : ∃ j, seqIndex? i xs.length = some j ∧ xs[j]? = some v ∧ j < xs.length ∧ -(xs.length : Int) ≤ i ∧ i < xs.length := by
  unfold atI at h
  cases e : ixN xs.length i with
  | none => rw [e] at h; cases h
  | some j =>
    rw [e] at h
    obtain ⟨h1, h2, h3, h4⟩ := ixN_seq e
    exact ⟨j, h1, h, h2, h3, h4⟩
theorem atI_nat {α : Type} {xs : List α} {j : Nat} {v : α} (h : xs[j]? = some v) : atI xs (j : Int) = some v := by
  have hj : j < xs.length := (List.getElem?_eq_some_iff.mp h).1
  have e : ixN xs.length (j : Int) = some j := by
    unfold ixN
    rw [if_pos (by omega), if_pos (by omega)]; simp
  unfold atI; rw [e]; exact h
theorem atI_last {α : Type} (xs : List α) (v : α) : atI (xs ++ [v]) (-1) = some v := by
  have hl : (xs ++ [v]).length = xs.length + 1 := by simp
  have e : ixN (xs ++ [v]).length (-1) = some xs.length := by
    unfold ixN
    rw [hl, if_neg (by decide), if_pos (by omega)]
    congr 1
    omega
  unfold atI
  rw [e]
  show (xs ++ [v])[xs.length]? = some v
  simp

/-! ### what may be subscripted -/
/-- what stands as an index of a plain subscript -/
def PlainIx (b : Expr) : Prop := ∀ o i, subscripted b false o i = operate [o, i] (getItem o i)
/-- a subscript by values -/
def IxR (X : Cx) (r : R2) : Prop :=
  ∀ (value slice : Expr) (pins : List (Addr × Obj)) (s : Shared) (σ : St) (H : Hp) (x y : V) (v u : Value) (Q : VK), Inv X pins σ H s → RelV x v → RelV y u → r x y H Q →
    subscripted slice false v u = operate [v, u] (getItem v u) → wpAny (model X.prog X.w) X.A (subscriptTail value slice v u) (EP X pins σ Q) X.xe s
/-- a call of a builtin's method by values: the receiver, the arguments -/
def MtR (X : Cx) (id : String) (r : V → List V → Hp → VK → Prop) : Prop :=
  ∀ (pins : List (Addr × Obj)) (s : Shared) (σ : St) (H : Hp) (x : V) (xs : List V) (v : Value) (us : List Value) (Q : VK), Inv X pins σ H s → RelV x v → Vals xs us → r x xs H Q →
    wpAny (model X.prog X.w) X.A (call (.builtin id) (v :: us)) (EP X pins σ Q) X.xe s
section
variable {X : Cx} {a b : Expr} {ta tb : TE} {pos : Pos}
theorem IxR.or {r r' : R2} (h : IxR X r) (h' : IxR X r') : IxR X (fun x y H Q => r x y H Q ∨ r' x y H Q) := by
  intro value slice pins s σ H x y v u Q I rx ry q hs
  rcases q with q | q
  · exact h value slice pins s σ H x y v u Q I rx ry q hs
  · exact h' value slice pins s σ H x y v u Q I rx ry q hs
theorem MtR.or {id : String} {r r' : V → List V → Hp → VK → Prop} (h : MtR X id r) (h' : MtR X id r') : MtR X id (fun x xs H Q => r x xs H Q ∨ r' x xs H Q) := by
  intro pins s σ H x xs v us Q I rx rs q
  rcases q with q | q
  · exact h pins s σ H x xs v us Q I rx rs q
  · exact h' pins s σ H x xs v us Q I rx rs q
/-- a[b] -/
theorem pe_ix {r : R2} (hr : IxR X r) (ha : PE X a ta) (hb : PE X b tb) (hs : PlainIx b) : PE X (.Subscript a b pos) (tOp r ta tb) := by
  intro pins s σ H Q I h
  exact Subscript_ (binT ha hb I h fun v u s2 x y H2 I2 rx ry q => hr a b pins s2 σ H2 x y v u Q I2 rx ry q (hs _ _))

def rIxL (K : PySem.W.Frag) : R2 := fun x y H Q => ∃ p xs i v, x = .ref p ∧ y = .int i ∧ SqL K H p xs ∧ atI xs i = some v ∧ Q v H
def rIxT (K : PySem.W.Frag) : R2 := fun x y H Q => ∃ p xs i v, x = .ref p ∧ y = .int i ∧ SqT K H p xs ∧ atI xs i = some v ∧ Q v H
def rIxS : R2 := fun x y H Q => ∃ z i c, x = .str z ∧ y = .int i ∧ z.length ≤ sizeLine ∧ atI z.cps.toList i = some c ∧ Q (.str ⟨#[c]⟩) H
theorem ix_list : IxR X (rIxL X.K) := by
  intro value slice pins s σ H x y v u Q I rx ry h hs
  obtain ⟨p, xs, i, z, rfl, rfl, hq, he, q⟩ := h
  cases rx
  obtain ⟨t, rfl⟩ := ry
  obtain ⟨its, r, pl, hz⟩ := I.list hq
  obtain ⟨j, h1, h2, h3, h4, h5⟩ := atI_get he
  obtain ⟨w, ew, rw'⟩ := r.get h2
  have hl := r.length
  have hn := line63
  have fin : EP X pins σ Q w s := ⟨z, H, I, rw', q⟩
  by_cases h0 : 0 ≤ i
  · have hj : i.toNat = j := by
      rw [seqIndex_of h0 h5] at h1
      exact Option.some.inj h1
    exact item_listR pl.isList h0 (by omega) (by rw [hj]; simpa using ew) fin hs
  · have hj : (i + (its.toArray.size : Int)).toNat = j := by
      rw [seqIndex_neg (by omega) h4] at h1
      rw [List.size_toArray, ← hl]
      exact Option.some.inj h1
    exact subscriptTail_builtinR (x := w) pl.isList.typeIs slot_list_getitem.lookup
      (wpAny_getItem_list_neg (Q := fun r s' => r = w ∧ EP X pins σ Q r s') pl.isList (by omega) (by rw [List.size_toArray] <;> omega) (by omega) (by rw [hj]; simpa using ew) ⟨rfl, fin⟩) hs
theorem ix_tup : IxR X (rIxT X.K) := by
  intro value slice pins s σ H x y v u Q I rx ry h hs
  obtain ⟨p, xs, i, z, rfl, rfl, hq, he, q⟩ := h
  cases rx
  obtain ⟨t, rfl⟩ := ry
  obtain ⟨its, r, pl, hz⟩ := I.tuple hq
  obtain ⟨j, h1, h2, h3, h4, h5⟩ := atI_get he
  obtain ⟨w, ew, rw'⟩ := r.get h2
  have hl := r.length
  have hn := line63
  have fin : EP X pins σ Q w s := ⟨z, H, I, rw', q⟩
  exact subscriptTail_builtinR (x := w) pl.typeIs slot_tuple_getitem.lookup
    (getItem_tuple (j := j) (Q := fun r s' => r = w ∧ EP X pins σ Q r s') pl (by omega) (by omega) (by rw [List.size_toArray, ← hl]; exact h1) (by simpa using ew) ⟨rfl, fin⟩) hs
theorem ix_str : IxR X rIxS := by
  intro value slice pins s σ H x y v u Q I rx ry h hs
  obtain ⟨z, i, c, rfl, rfl, hz, he, q⟩ := h
  obtain ⟨t, rfl⟩ := rx
  obtain ⟨t', rfl⟩ := ry
  obtain ⟨j, h1, h2, h3, h4, h5⟩ := atI_get he
  have hl : z.cps.toList.length = z.length := by simp [Str.length]
  rw [hl] at h1 h4 h5
  have hn := line63
  exact tail_any (typeIs_str s z t) slot_str_getitem.lookup (getItem_str (c := c) (by
    have e1 : decide (i < -(2 ^ 63 : Int)) = false := decide_eq_false (by omega)
    have e2 : decide (i ≥ 2 ^ 63) = false := decide_eq_false (by omega)
    rw [e1, e2, Bool.or_false]) (by rw [h1]; simpa using h2) ⟨.str ⟨#[c]⟩, H, I.tok _, ⟨_, rfl⟩, q⟩) hs
/-- list, tuple or str -/
def rIx (K : PySem.W.Frag) : R2 := fun x y H Q => rIxL K x y H Q ∨ rIxT K x y H Q ∨ rIxS x y H Q
theorem ix_seq : IxR X (rIx X.K) := ix_list.or (ix_tup.or ix_str)

/-! ### xs[i] = v, any sign -/
/-- the list's object behind a store -/
theorem mapSeq_set (its : List Value) (n j : Nat) (u : Value) : Obj.mapSeq (·.setIfInBounds j u) { cls := .type "list", data := .seq its.toArray n } = { cls := .type "list", data := .seq (its.set j u).toArray n } := by
  simp [Obj.mapSeq]
theorem Inv.lst {pins : List (Addr × Obj)} {σ : St} {H : Hp} {s : Shared} {p : Addr} {xs : List V} (I : Inv X pins σ H s) (h : H p = some (.lst xs)) :
    ∃ (its : List Value) (n : Nat), Vals xs its ∧ s.heap.get? p = some { cls := .type "list", data := .seq its.toArray n } ∧ xs.length ≤ sizeLine := by
  obtain ⟨z, its, n, r, e⟩ := I.hok p _ h
  exact ⟨its, n, r, e, z⟩
/-- the list at p is written by an update of its object -/
theorem Inv.lstUpd {pins : List (Addr × Obj)} {σ : St} {H : Hp} {s : Shared} {p : Addr} {xs ys : List V} {its its' : List Value} {n n' : Nat} {f : Obj → Obj} (I : Inv X pins σ H s) (h : H p = some (.lst xs))
    (ho : s.heap.get? p = some { cls := .type "list", data := .seq its.toArray n }) (hf : f { cls := .type "list", data := .seq its.toArray n } = { cls := .type "list", data := .seq its'.toArray n' }) (r : Vals ys its') (hz : ys.length ≤ sizeLine) (t : Nat) :
    Inv X pins σ (upd H p (.lst ys)) { s with heap := s.heap.update p f, toks := t } := by
  have e : (s.heap.update p f).get? p = some { cls := .type "list", data := .seq its'.toArray n' } := by
    rw [Heap.get?_update_self f ho (by rw [hf] <;> rfl), hf]
  refine I.write (x := p) (e := p) (by rw [h]; trivial) (.inl rfl) (fun b u hb q => (Heap.get?_update_other _ _ (Ne.symm hb)).trans q) ⟨_, e⟩ ?_
  exact ⟨hz, its', n', r, e⟩
def rSetL : V → V → V → Hp → (Hp → Prop) → Prop := fun o i v H Q => ∃ p xs k j, o = .ref p ∧ i = .int k ∧ H p = some (.lst xs) ∧ ixN xs.length k = some j ∧ Q (upd H p (.lst (xs.set j v)))
theorem set_list : PSet X rSetL := by
  intro pins s σ H o i v ov iv u Q I ro ri rv h
  obtain ⟨p, xs, k, j, rfl, rfl, hp, hj, q⟩ := h
  cases ro
  obtain ⟨t, rfl⟩ := ri
  obtain ⟨its, n, r, ho, hz⟩ := I.lst hp
  obtain ⟨h1, h2, h3, h4⟩ := ixN_seq hj
  have hl := r.length
  have hn := line63
  have I' : Inv X pins σ (upd H p (.lst (xs.set j v))) { s with heap := s.heap.update p (Obj.mapSeq (·.setIfInBounds j u)) } :=
    I.lstUpd hp ho (mapSeq_set its n j u) (r.set rv j) (by rw [List.length_set]; exact hz) s.toks
  by_cases h0 : 0 ≤ k
  · have hk : k.toNat = j := by
      rw [seqIndex_of h0 h4] at h1
      exact Option.some.inj h1
    exact PySem.W.ki_setAt ho h0 (by omega) (by rw [List.size_toArray, ← hl]; exact h4) (by rw [hk]; exact ⟨_, I', q⟩)
  · have hk : (k + (its.toArray.size : Int)).toNat = j := by
      rw [seqIndex_neg (by omega) h3] at h1
      rw [List.size_toArray, ← hl]
      exact Option.some.inj h1
    exact PySem.W.ki_setBack ho (by omega) (by rw [List.size_toArray, ← hl]; exact h3) (by omega) (by rw [hk]; exact ⟨_, I', q⟩)

/-! ### slices -/
theorem slice_bounds (lo hi : Option Int) (n : Nat) : (sliceBounds lo hi none n).1 = ((HT.sIx n 0 lo : Nat) : Int) ∧ (sliceBounds lo hi none n).2.1 = ((HT.sIx n n hi : Nat) : Int) ∧ (sliceBounds lo hi none n).2.2 = 1 := by
  refine ⟨?_, ?_, rfl⟩
  · cases lo with
    | none => simp [sliceBounds, HT.sIx]
    | some i =>
      simp only [sliceBounds, HT.sIx, Option.getD_none, show (1 : Int) > 0 by decide, if_true]
      by_cases h : i < 0
      · simp only [h, if_true] <;> omega
      · simp only [h, if_false] <;> omega
  · cases hi with
    | none => simp [sliceBounds, HT.sIx]
    | some i =>
      simp only [sliceBounds, HT.sIx, Option.getD_none, show (1 : Int) > 0 by decide, if_true]
      by_cases h : i < 0
      · simp only [h, if_true] <;> omega
      · simp only [h, if_false] <;> omega
theorem slicePick_cut (its : List Value) (lo hi : Option Int) : slicePick its.toArray lo hi none = ((its.drop (HT.sIx its.length 0 lo)).take (HT.sIx its.length its.length hi - HT.sIx its.length 0 lo)).toArray := by
  obtain ⟨h1, h2, h3⟩ := slice_bounds lo hi its.toArray.size
  unfold slicePick
  rw [h1, h2, h3]
  simp only [sliceRange_one, pick_run, List.size_toArray] <;> rfl
/-- xs[lo:hi] of a list: a new list -/
def rSlL (K : PySem.W.Frag) : V → Option Int → Option Int → Hp → VK → Prop := fun x lo hi H Q => ∃ a xs, x = .ref a ∧ SqL K H a xs ∧ ∀ p, H p = none → Q (.ref p) (upd H p (.lst (cutV xs lo hi)))
theorem sl_list : SlR X (rSlL X.K) := by
  intro pins s σ H x v vl vu lo hi sl Q I rx hs pl pu h
  obtain ⟨a, xs, rfl, hx, q⟩ := h
  cases rx
  obtain ⟨its, r, ht, hz⟩ := I.list hx
  have hlen := r.length
  refine ⟨"list", _, slot_list_getitem.lookup, ht.isList.typeIs, ?_⟩
  refine wpAny_getItem_list_slice ht.isList hs pl pu .none (by simp) ?_ (by rw [List.size_toArray] <;> omega)
  rw [slicePick_cut, ← hlen]
  refine ⟨.ref s.heap.objs.size, _, I.laid (t' := s.toks) (o := .lst (cutV xs lo hi)) (fun b ob q => Heap.get?_push_of_some _ q) (Nat.le_refl _) ?_, rfl, q _ (I.hok.fresh (Nat.le_refl _))⟩
  exact ⟨Nat.le_trans (cutV_length xs lo hi) hz, _, 0, (r.drop (HT.sIx xs.length 0 lo)).take (HT.sIx xs.length xs.length hi - HT.sIx xs.length 0 lo), Heap.get?_push_size _ rfl⟩

/-! ### in, not in: flat items -/
def flatV : V → Bool
  | .non => true
  | .bl _ => true
  | .int _ => true
  | .str _ => true
  | _ => false
/-- == of flat values -/
def eqV : V → V → Bool
  | .non, .non => true
  | .bl a, .bl b => a == b
  | .bl a, .int b => (if a then 1 else 0) == b
  | .int a, .bl b => a == (if b then 1 else 0)
  | .int a, .int b => a == b
  | .str a, .str b => a == b
  | _, _ => false
theorem eqAt_V {A : Around} {s : Shared} {y x : V} {u v : Value} (ry : RelV y u) (rx : RelV x v) (fy : flatV y = true) (fx : flatV x = true) : SeqAt.EqAt A s u v (eqV y x) := by
  cases y with
  | non =>
    cases ry
    cases x with
    | non => cases rx; exact SeqAt.EqAt.same _
    | bl b => cases rx; exact SeqAt.EqAt.none_bool b
    | int b => obtain ⟨t, rfl⟩ := rx; exact SeqAt.EqAt.none_int b t
    | str b => obtain ⟨t, rfl⟩ := rx; exact SeqAt.EqAt.none_str b t
    | _ => exact absurd (show false = true from fx) Bool.false_ne_true
  | bl a =>
    cases ry
    cases x with
    | non => cases rx; exact SeqAt.EqAt.bool_none a
    | bl b => cases rx; exact SeqAt.EqAt.bool_bool a b
    | int b => obtain ⟨t, rfl⟩ := rx; exact SeqAt.EqAt.bool_int a b t
    | str b => obtain ⟨t, rfl⟩ := rx; exact SeqAt.EqAt.bool_str a b t
    | _ => exact absurd (show false = true from fx) Bool.false_ne_true
  | int a =>
    obtain ⟨t', rfl⟩ := ry
    cases x with
    | non => cases rx; exact SeqAt.EqAt.int_none a t'
    | bl b => cases rx; exact SeqAt.EqAt.int_bool a t' b
    | int b => obtain ⟨t, rfl⟩ := rx; exact SeqAt.EqAt.int_int a t' b t
    | str b => obtain ⟨t, rfl⟩ := rx; exact SeqAt.EqAt.int_str a t' b t
    | _ => exact absurd (show false = true from fx) Bool.false_ne_true
  | str a =>
    obtain ⟨t', rfl⟩ := ry
    cases x with
    | non => cases rx; exact SeqAt.EqAt.str_none a t'
    | bl b => cases rx; exact SeqAt.EqAt.str_bool a t' b
    | int b => obtain ⟨t, rfl⟩ := rx; exact SeqAt.EqAt.str_int a t' b t
    | str b => obtain ⟨t, rfl⟩ := rx; exact SeqAt.EqAt.str_str a t' b t
    | _ => exact absurd (show false = true from fx) Bool.false_ne_true
  | _ => exact absurd (show false = true from fy) Bool.false_ne_true
/-- the items' answers, read off the values (a value's own answer does not lean on its token) -/
def eqU (x : V) (u : Value) : Bool := match u with
  | .none => eqV .non x
  | .bool b => eqV (.bl b) x
  | .int i _ => eqV (.int i) x
  | .str z _ => eqV (.str z) x
  | _ => false
theorem eqU_of {x y : V} {u : Value} (r : RelV y u) (f : flatV y = true) : eqU x u = eqV y x := by
  cases y with
  | non => cases r; rfl
  | bl b => cases r; rfl
  | int i => obtain ⟨t, rfl⟩ := r; rfl
  | str z => obtain ⟨t, rfl⟩ := r; rfl
  | _ => exact absurd (show false = true from f) Bool.false_ne_true
theorem any_eqU {x : V} : ∀ {xs : List V} {us : List Value}, Vals xs us → xs.all flatV = true → us.any (eqU x) = xs.any fun y => eqV y x
  | _, _, .nil, _ => rfl
  | y :: xs, u :: us, .cons r t, f => by
    rw [List.all_cons, Bool.and_eq_true] at f
    rw [List.any_cons, List.any_cons, eqU_of r f.1, any_eqU t f.2]
theorem mem_eqAt {A : Around} {s : Shared} {x : V} {v : Value} (rx : RelV x v) (fx : flatV x = true) : ∀ {xs : List V} {us : List Value}, Vals xs us → xs.all flatV = true → ∀ u ∈ us, SeqAt.EqAt A s u v (eqU x u)
  | _, _, .nil, _ => fun u hu => by cases hu
  | y :: xs, u :: us, .cons r t, f => fun u' hu => by
    rw [List.all_cons, Bool.and_eq_true] at f
    rcases List.mem_cons.mp hu with rfl | hu
    · rw [eqU_of r f.1]; exact eqAt_V r rx f.1 fx
    · exact mem_eqAt rx fx t f.2 u' hu
def inV (x : V) (xs : List V) : Bool := xs.any fun y => eqV y x
/-- x in a list or tuple of flat items -/
def rIn (K : PySem.W.Frag) (neg : Bool) : R2 := fun x y H Q => ∃ p xs, y = .ref p ∧ (SqL K H p xs ∨ SqT K H p xs) ∧ flatV x = true ∧ xs.all flatV = true ∧ Q (.bl (if neg then !inV x xs else inV x xs)) H
theorem op_in_seq : OpR X (compareOp .In) (rIn X.K false) := by
  intro pins s σ H x y v u Q I rx ry h
  obtain ⟨p, xs, rfl, hq, fx, fs, q⟩ := h
  cases ry
  rcases hq with hq | hq
  · obtain ⟨its, r, pl, hz⟩ := I.list hq
    refine SeqAt.in_listAt (eqU x) pl.isList (fun w hw => mem_eqAt rx fx r fs w (by simpa using hw)) ⟨.bl _, H, I, rfl, ?_⟩
    rw [show its.toArray.any (eqU x) = its.any (eqU x) by simp, any_eqU r fs]
    exact q
  · obtain ⟨its, r, pl, hz⟩ := I.tuple hq
    refine SeqAt.in_tupleAt (eqU x) pl (fun w hw => mem_eqAt rx fx r fs w (by simpa using hw)) ⟨.bl _, H, I, rfl, ?_⟩
    rw [show its.toArray.any (eqU x) = its.any (eqU x) by simp, any_eqU r fs]
    exact q
theorem op_notIn_seq : OpR X (compareOp .NotIn) (rIn X.K true) := by
  intro pins s σ H x y v u Q I rx ry h
  obtain ⟨p, xs, rfl, hq, fx, fs, q⟩ := h
  cases ry
  rcases hq with hq | hq
  · obtain ⟨its, r, pl, hz⟩ := I.list hq
    refine SeqAt.notIn_listAt (eqU x) pl.isList (fun w hw => mem_eqAt rx fx r fs w (by simpa using hw)) ⟨.bl _, H, I, rfl, ?_⟩
    rw [show its.toArray.any (eqU x) = its.any (eqU x) by simp, any_eqU r fs]
    exact q
  · obtain ⟨its, r, pl, hz⟩ := I.tuple hq
    refine SeqAt.notIn_tupleAt (eqU x) pl (fun w hw => mem_eqAt rx fx r fs w (by simpa using hw)) ⟨.bl _, H, I, rfl, ?_⟩
    rw [show its.toArray.any (eqU x) = its.any (eqU x) by simp, any_eqU r fs]
    exact q
theorem op_notIn_str : OpR X (compareOp .NotIn) (fun x y H Q => ∃ i j, x = .str i ∧ y = .str j ∧ Q (.bl (!(!(Builtin.Str.occurrences j i 0 j.length 1).isEmpty))) H) := by
  intro pins s σ H x y v u Q I rx ry h
  obtain ⟨i, j, rfl, rfl, q⟩ := h
  obtain ⟨t, rfl⟩ := rx
  obtain ⟨t', rfl⟩ := ry
  exact notIn_str ⟨.bl _, H, I, rfl, q⟩

/-! ### len, list(x), tuple(x) of any list or tuple that is read -/
theorem call_len_seq : CallR X (.builtin "len") (fun xs H Q => ∃ p ys, xs = [.ref p] ∧ (SqL X.K H p ys ∨ SqT X.K H p ys) ∧ Q (.int ys.length) H) := by
  intro pins s σ H xs us Q I r h
  obtain ⟨p, ys, rfl, hq, q⟩ := h
  obtain ⟨u, rfl, rx⟩ := vals1 r
  cases rx
  have hn := line63
  rcases hq with hq | hq
  · obtain ⟨its, r', pl, hz⟩ := I.list hq
    have hlen := r'.length
    exact Calls.call_len_list pl.isList (by simp only [List.size_toArray] <;> omega) ⟨.int ys.length, H, I.tok _, ⟨s.toks + 1, by rw [List.size_toArray, hlen]⟩, q⟩
  · obtain ⟨its, r', pl, hz⟩ := I.tuple hq
    have hlen := r'.length
    exact len_tuple pl (by simp only [List.size_toArray] <;> omega) ⟨.int ys.length, H, I.tok _, ⟨s.toks + 1, by rw [List.size_toArray, hlen]⟩, q⟩
theorem call_len_str : CallR X (.builtin "len") (fun xs H Q => ∃ z, xs = [.str z] ∧ z.length ≤ sizeLine ∧ Q (.int z.length) H) := by
  intro pins s σ H xs us Q I r h
  obtain ⟨z, rfl, hz, q⟩ := h
  obtain ⟨u, rfl, t, rfl⟩ := vals1 r
  have hn := line63
  exact len_str (by omega) ⟨.int z.length, H, I.tok _, ⟨_, rfl⟩, q⟩
theorem CallR.or {f : Value} {r r' : List V → Hp → VK → Prop} (h : CallR X f r) (h' : CallR X f r') : CallR X f (fun xs H Q => r xs H Q ∨ r' xs H Q) := by
  intro pins s σ H xs us Q I rs q
  rcases q with q | q
  · exact h pins s σ H xs us Q I rs q
  · exact h' pins s σ H xs us Q I rs q
theorem call_list_of : CallR X (.type "list") (fun xs H Q => ∃ p ys, xs = [.ref p] ∧ (SqL X.K H p ys ∨ SqT X.K H p ys) ∧ ∀ l, H l = none → Q (.ref l) (upd H l (.lst ys))) := by
  intro pins s σ H xs us Q I r h
  obtain ⟨p, ys, rfl, hq, q⟩ := h
  obtain ⟨u, rfl, rx⟩ := vals1 r
  cases rx
  have fin : ∀ (its : List Value), Vals ys its → ys.length ≤ sizeLine → ∀ (h' : Heap) (c' : Nat), (∀ b o', s.heap.get? b = some o' → h'.get? b = some o') →
      h'.get? s.heap.objs.size = some { cls := .type "list", dict := none, data := .seq its.toArray c', slots := #[] } → EP X pins σ Q (.ref s.heap.objs.size) { s with heap := h' } := fun its r' hz h' c' kp e =>
    ⟨.ref s.heap.objs.size, _, I.laid (t' := s.toks) kp (Nat.le_refl _) (show ObjOk X.prog X.w _ h' _ (.lst ys) from ⟨hz, its, c', r', e⟩), rfl, q _ (I.hok.fresh (Nat.le_refl _))⟩
  rcases hq with hq | hq
  · obtain ⟨its, r', pl, hz⟩ := I.list hq
    have hlen := r'.length
    obtain ⟨o, ho, hc, n, hd⟩ := pl.isList
    exact call_list_seq p (.inl rfl) ho hc hd (fun h' c' kp e => fin its r' hz h' c' kp e) (by simp only [List.size_toArray] <;> omega)
  · obtain ⟨its, r', pl, hz⟩ := I.tuple hq
    have hlen := r'.length
    obtain ⟨o, ho, hc, n, hd⟩ := pl
    exact call_list_seq p (.inr rfl) ho hc hd (fun h' c' kp e => fin its r' hz h' c' kp e) (by simp only [List.size_toArray] <;> omega)
theorem call_tuple_of : CallR X (.type "tuple") (fun xs H Q => ∃ p ys, xs = [.ref p] ∧ ((SqL X.K H p ys ∧ ∀ l, H l = none → Q (.ref l) (upd H l (.tup ys))) ∨ (SqT X.K H p ys ∧ Q (.ref p) H))) := by
  intro pins s σ H xs us Q I r h
  obtain ⟨p, ys, rfl, h⟩ := h
  obtain ⟨u, rfl, rx⟩ := vals1 r
  cases rx
  rcases h with ⟨hq, q⟩ | ⟨hq, q⟩
  · obtain ⟨its, r', pl, hz⟩ := I.list hq
    have hlen := r'.length
    refine call_tuple_list pl.isList (fun h' kp => ?_) (by simp only [List.size_toArray] <;> omega)
    have I1 : Inv X pins σ H { s with heap := h' } := I.kept (t' := s.toks) kp
    have I2 : Inv X pins σ (upd H h'.objs.size (.tup ys)) { s with heap := h'.push { cls := .type "tuple", data := .seq its.toArray } } :=
      I1.laid (t' := s.toks) (fun b o e => Heap.get?_push_of_some _ e) (Nat.le_refl _) (show ObjOk X.prog X.w _ _ _ (.tup ys) from ⟨hz, its, r', IsTup.new _ _⟩)
    exact ⟨.ref h'.objs.size, _, I2, rfl, q _ (I1.hok.fresh (Nat.le_refl _))⟩
  · obtain ⟨its, r', pl, hz⟩ := I.tuple hq
    exact call_tuple_same pl ⟨.ref p, H, I, rfl, q⟩

/-! ### the call of a builtin's method: o.m(..) -/
/-- the value is of that builtin type -/
def tyV (K : PySem.W.Frag) (T : String) (x : V) (H : Hp) : Prop := match x with
  | .str _ => T = "str"
  | .int _ => T = "int"
  | .ref p => (T = "list" ∧ ∃ xs, SqL K H p xs) ∨ (T = "tuple" ∧ ∃ o, K.lookup p = some o ∧ o.cls = .type "tuple" ∧ o.dict = none) ∨
      (T = "dict" ∧ ((∃ kvs, H p = some (.dK kvs)) ∨ ∃ kvs, H p = some (.dT kvs))) ∨ (T = "set" ∧ ∃ S n, H p = some (.set S n))
  | _ => False
theorem tyV_is {pins : List (Addr × Obj)} {σ : St} {H : Hp} {s : Shared} {T : String} {x : V} {v : Value} (I : Inv X pins σ H s) (r : RelV x v) (ty : tyV X.K T x H) :
    s.TypeIs v T ∧ ∀ a, v = .ref a → ∃ ob, s.heap.get? a = some ob ∧ ob.dict = none := by
  cases x with
  | str z =>
    obtain ⟨t, rfl⟩ := r
    cases (show T = "str" from ty)
    exact ⟨typeIs_str s z t, fun _ e => nomatch e⟩
  | int i =>
    obtain ⟨t, rfl⟩ := r
    cases (show T = "int" from ty)
    exact ⟨typeIs_int s i t, fun _ e => nomatch e⟩
  | ref p =>
    cases r
    rcases ty with ⟨rfl, xs, hq⟩ | ⟨rfl, o, hk, hc, hd⟩ | ⟨rfl, hk⟩ | ⟨rfl, S, n, hk⟩
    · obtain ⟨its, _, pl, _⟩ := I.list hq
      refine ⟨pl.isList.typeIs, fun a e => ?_⟩
      cases e
      obtain ⟨o, n, e, c, hd, _⟩ := pl
      exact ⟨o, e, hd⟩
    · refine ⟨⟨o, I.kIn p o hk, hc⟩, fun a e => ?_⟩
      cases e
      exact ⟨o, I.kIn _ o hk, hd⟩
    · have z : ∃ o, s.heap.get? p = some o ∧ o.ExactDict := by
        rcases hk with ⟨kvs, hk⟩ | ⟨kvs, hk⟩
        · obtain ⟨_, _, _, _, o, _, _, e, ex, _⟩ := I.hok p _ hk
          exact ⟨o, e, ex⟩
        · obtain ⟨_, _, _, _, o, _, _, e, ex, _⟩ := I.hok p _ hk
          exact ⟨o, e, ex⟩
      obtain ⟨o, e, ex⟩ := z
      refine ⟨⟨o, e, ex.1⟩, fun a e2 => ?_⟩
      cases e2
      exact ⟨o, e, ex.2.1⟩
    · obtain ⟨o, _, _, _, e, ex, _⟩ := I.hok p _ hk
      refine ⟨⟨o, e, ex.1⟩, fun a e2 => ?_⟩
      cases e2
      exact ⟨o, e, ex.2.1⟩
  | _ => exact False.elim ty
def tBM0 (K : PySem.W.Frag) (T : String) (r : V → List V → Hp → VK → Prop) (to : TE) : TE := fun σ H Q => to σ H fun x H1 => tyV K T x H1 ∧ r x [] H1 Q
def tBM (K : PySem.W.Frag) (T : String) (r : V → List V → Hp → VK → Prop) (to : TE) (t : TA) : TE := fun σ H Q => to σ H fun x H1 => tyV K T x H1 ∧ t σ H1 fun xs H2 => r x xs H2 Q
variable {o e : Expr} {es : List Expr} {to : TE} {t : TA} {name : Str} {apos cpos : Pos} {T id : String} {r : V → List V → Hp → VK → Prop}
theorem pe_bm0 (pa : PlainAttrs T) (slot : Slot T name id) (hty : typeOf (.builtin id) = pure (.type "method_descriptor")) (hm : MtR X id r) (ho : PE X o to)
    (hbase : attributeBase o name X.env (eval o X.env) = eval o X.env := by rfl) (hline : (apos.endLine == cpos.line) = true := by rfl) : PE X (.Call (.Attribute o name apos) [] [] cpos) (tBM0 X.K T r to) := by
  intro pins s σ H Q I h
  refine wpAny_Call_method0_late hbase hline (thn (ho pins s σ H _ I h) fun v s1 ⟨x, H1, I1, r1, ty, q1⟩ => ?_)
  obtain ⟨h1, h2⟩ := tyV_is I1 r1 ty
  exact ⟨T, id, pa, slot, hty, h1, h2, Calls.callWith_builtin rfl (PySem.evalArgs_none (hm pins s1 σ H1 x [] v [] Q I1 r1 .nil q1))⟩
theorem pe_bm (pa : PlainAttrs T) (slot : Slot T name id) (hty : typeOf (.builtin id) = pure (.type "method_descriptor")) (hm : MtR X id r) (ho : PE X o to) (ha : PA X (e :: es) t)
    (hbase : attributeBase o name X.env (eval o X.env) = eval o X.env := by rfl)
    (hfew : ((backTo cpos (starEach (e :: es) X.env)).all (fun x => !x.1) && (backToKw cpos (keywordEach [] X.env)).all (fun x => x.1.isSome)
      && decide ((e :: es).length + ([] : List Keyword).length + (if ([] : List Keyword).isEmpty then 0 else 1) < 30)) = true := by rfl)
    (hline : (apos.endLine == cpos.line) = true := by rfl) (hs : starEach (e :: es) X.env = (false, eval e X.env) :: starEach es X.env := by rfl) (hplain : (backTo cpos (starEach es X.env)).any (·.1) = false := by rfl) :
    PE X (.Call (.Attribute o name apos) (e :: es) [] cpos) (tBM X.K T r to t) := by
  intro pins s σ H Q I h
  refine wpAny_Call_method_late hbase hfew hline rfl (thn (ho pins s σ H _ I h) fun v s1 ⟨x, H1, I1, r1, ty, q1⟩ => ?_)
  obtain ⟨h1, h2⟩ := tyV_is I1 r1 ty
  refine ⟨T, id, pa, slot, hty, h1, h2, ?_⟩
  have hA := ha cpos pins s1 σ H1 _ I1 q1
  rw [hs] at hA ⊢
  refine Calls.callWith_builtin (by show (false || (backTo cpos (starEach es X.env)).any (·.1)) = false; rw [hplain] <;> rfl) (Calls.evalArgs_plain ?_)
  exact thn hA fun us s2 ⟨vs, H2, I2, r2, q2⟩ => hm pins s2 σ H2 x vs v us Q I2 r1 r2 q2
/- xs.append(e), list.index on a module's tuple .. are MtR facts of 06m -/
end
end L2

namespace L2
open PySem PySem.Spec PyProof.Rows

def MtM (X : Cx) (id : String) (r : V → List V → Hp → VK → Prop) : Prop :=
  ∀ (pins : List (Addr × Obj)) (s : Shared) (σ : St) (H : Hp) (x : V) (xs : List V) (v : Value) (us : List Value) (Q : VK), Inv X pins σ H s → RelV x v → Vals xs us → r x xs H Q →
    wpAny (model X.prog X.w) X.A (call (.builtin id) (v :: us)) (EP X pins σ Q) X.xe s

/-! ### lists of values -/
theorem Vals.one : ∀ {x : V} {us : List Value}, Vals [x] us → ∃ u, us = [u] ∧ RelV x u
  | _, _, .cons r .nil => ⟨_, rfl, r⟩
theorem Vals.two : ∀ {x y : V} {us : List Value}, Vals [x, y] us → ∃ u v, us = [u, v] ∧ RelV x u ∧ RelV y v
  | _, _, _, .cons r (.cons q .nil) => ⟨_, _, rfl, r, q⟩
theorem Vals.zero : ∀ {us : List Value}, Vals [] us → us = []
  | _, .nil => rfl
theorem Vals.dropLast {xs : List V} {us : List Value} (h : Vals xs us) : Vals xs.dropLast us.dropLast := by
  induction h with
  | nil => exact .nil
  | cons r t ih =>
    cases t with
    | nil => exact .nil
    | cons q t' => exact .cons r ih
theorem Vals.eraseIdx : ∀ {xs : List V} {us : List Value} (i : Nat), Vals xs us → Vals (xs.eraseIdx i) (us.eraseIdx i)
  | _, _, _, .nil => .nil
  | _, _, 0, .cons _ t => t
  | _, _, i + 1, .cons r t => .cons r (Vals.eraseIdx i t)
theorem Vals.reverse {xs : List V} {us : List Value} (h : Vals xs us) : Vals xs.reverse us.reverse := by
  induction h with
  | nil => exact .nil
  | cons r t ih => rw [List.reverse_cons, List.reverse_cons]; exact Vals.append ih (.cons r .nil)
theorem Vals.rep {xs : List V} {us : List Value} (h : Vals xs us) : ∀ k : Nat, Vals (List.replicate k xs).flatten (List.replicate k us).flatten
  | 0 => .nil
  | k + 1 => by
    rw [List.replicate_succ, List.replicate_succ, List.flatten_cons, List.flatten_cons]
    exact Vals.append h (Vals.rep h k)
theorem erase_last {α : Type} (l : List α) : l.eraseIdx (l.length - 1) = l.dropLast := by
  induction l with
  | nil => rfl
  | cons a r ih =>
    cases r with
    | nil => rfl
    | cons b r =>
      have e : (a :: b :: r).length - 1 = ((b :: r).length - 1) + 1 := by
        have h1 : (a :: b :: r).length = r.length + 2 := rfl
        have h2 : (b :: r).length = r.length + 1 := rfl
        omega
      rw [e, List.eraseIdx_cons_succ, ih]
      all_goals rfl
theorem len_erase {α : Type} : ∀ (l : List α) (i : Nat), (l.eraseIdx i).length ≤ l.length
  | [], _ => Nat.le_refl _
  | _ :: _, 0 => Nat.le_succ _
  | _ :: r, i + 1 => Nat.succ_le_succ (len_erase r i)
theorem foldl_rep (its : List Value) : ∀ (k : Nat) (acc : List Value),
    List.foldl (fun x1 x2 => x1 ++ x2) acc.toArray (List.replicate k its.toArray) = (acc ++ (List.replicate k its).flatten).toArray
  | 0, acc => by simp
  | k + 1, acc => by
    have e : acc.toArray ++ its.toArray = (acc ++ its).toArray := by simp
    have e2 : (acc ++ its) ++ (List.replicate k its).flatten = acc ++ (List.replicate (k + 1) its).flatten := by
      rw [List.replicate_succ, List.flatten_cons, List.append_assoc]
    rw [← e2, ← foldl_rep its k (acc ++ its), ← e, List.replicate_succ, List.foldl_cons]

section
variable {X : Cx} {pins : List (Addr × Obj)} {σ : St} {H : Hp} {s : Shared} {l b : Addr} {xs ys zs : List V}

/-! ### the two steps: a tracked list is rewritten, a new list is laid -/
theorem Inv.lset {its its' : List Value} {n : Nat} {f : Array Value → Array Value} {t' : Nat} (I : Inv X pins σ H s) (hH : H l = some (.lst xs))
    (e : s.heap.get? l = some { cls := .type "list", data := .seq its.toArray n }) (hf : f its.toArray = its'.toArray) (hv : Vals ys its') (hz : ys.length ≤ sizeLine) :
    Inv X pins σ (upd H l (.lst ys)) { s with heap := s.heap.update l (Obj.mapSeq f), toks := t' } := by
  have q := PySem.IsL.update e f
  rw [hf] at q
  refine I.write (x := l) (e := l) (by rw [hH]; exact trivial) (.inl rfl) (fun b' u hb hu => (Heap.get?_update_other s.heap (Obj.mapSeq f) (Ne.symm hb)).trans hu) ⟨_, q⟩ ?_
  exact ⟨hz, its', _, hv, q⟩
theorem Inv.lnew {its : List Value} {t' : Nat} (I : Inv X pins σ H s) (hv : Vals ys its) (hz : ys.length ≤ sizeLine) :
    Inv X pins σ (upd H s.heap.objs.size (.lst ys)) { s with heap := s.heap.push { cls := .type "list", data := .seq its.toArray }, toks := t' } :=
  I.laid (fun _ _ q => Heap.get?_push_of_some _ q) (Nat.le_refl _) ⟨hz, its, 0, hv, Heap.get?_push_size _ rfl⟩
theorem Inv.fresh (I : Inv X pins σ H s) : H s.heap.objs.size = none := I.hok.fresh (Nat.le_refl _)
theorem Inv.lstM (I : Inv X pins σ H s) (hH : H l = some (.lst xs)) : xs.length ≤ sizeLine ∧ ∃ (its : List Value) (n : Nat), Vals xs its ∧ xs.length = its.length ∧ s.heap.get? l = some { cls := .type "list", data := .seq its.toArray n } := by
  obtain ⟨z, its, n, r, e⟩ := I.hok l _ hH
  exact ⟨z, its, n, r, r.length, e⟩

theorem notLongL {n : Nat} (h : n ≤ sizeLine) : Builtin.List.listTooLong n = false := by
  unfold Builtin.List.listTooLong
  exact decide_eq_false (by omega)
end

section
variable {X : Cx}

/-! ### methods -/
def rAppend : V → List V → Hp → VK → Prop := fun x vs H Q => ∃ l xs y, x = .ref l ∧ vs = [y] ∧ H l = some (.lst xs) ∧ xs.length < sizeLine ∧ Q .non (upd H l (.lst (xs ++ [y])))
theorem mt_append : MtM X "list.append" rAppend := by
  intro pins s σ H x vs v us Q I rx rv h
  obtain ⟨l, xs, y, rfl, rfl, hH, hz, q⟩ := h
  cases rx
  obtain ⟨u, rfl, ru⟩ := rv.one
  obtain ⟨z, its, n, r, hl, e⟩ := I.lstM hH
  refine call_meets F.slot_list_append ⟨_, e, rfl⟩ F.entry_list_append (F.args_list_append_2 _ _) (PySem.list_append l its.toArray n u (by rw [List.size_toArray]; omega)) ⟨e, ?_⟩
  refine ⟨.non, _, I.lset (its' := its ++ [u]) hH e (by simp) (r.append (.cons ru .nil)) ?_, rfl, q⟩
  rw [List.length_append, List.length_singleton]
  omega

def rExtend : V → List V → Hp → VK → Prop := fun x vs H Q => ∃ l b xs zs, x = .ref l ∧ vs = [.ref b] ∧ H l = some (.lst xs) ∧ H b = some (.lst zs) ∧ xs.length + zs.length ≤ sizeLine ∧ Q .non (upd H l (.lst (xs ++ zs)))
theorem mt_extend : MtM X "list.extend" rExtend := by
  intro pins s σ H x vs v us Q I rx rv h
  obtain ⟨l, b, xs, zs, rfl, rfl, hH, hB, hz, q⟩ := h
  cases rx
  obtain ⟨u, rfl, ru⟩ := rv.one
  cases ru
  obtain ⟨z, its, n, r, hl, e⟩ := I.lstM hH
  obtain ⟨z2, its2, n2, r2, hl2, e2⟩ := I.lstM hB
  have hsz : its.toArray.size + its2.toArray.size ≤ sizeLine := by rw [List.size_toArray, List.size_toArray]; omega
  have hlong : ¬ (!its.toArray.isEmpty && Builtin.List.listTooLong (its.toArray.size + its2.toArray.size)) = true := by
    rw [notLongL hsz, Bool.and_false]
    exact Bool.false_ne_true
  refine call_meets F.slot_list_extend ⟨_, e, rfl⟩ F.entry_list_extend (F.args_list_extend_2 _ _)
    (AutoSeq1.list_extend_list_list_0 l its.toArray n b its2.toArray n2 hlong (by rw [List.size_toArray]; omega) (by omega)) ⟨e, e2, ?_⟩
  refine ⟨.non, _, I.lset (its' := its ++ its2) hH e (by simp) (r.append r2) ?_, rfl, q⟩
  rw [List.length_append]
  omega

def rPop : V → List V → Hp → VK → Prop := fun x vs H Q => ∃ l xs y, x = .ref l ∧ vs = [] ∧ H l = some (.lst xs) ∧ xs[xs.length - 1]? = some y ∧ Q y (upd H l (.lst xs.dropLast))
theorem mt_pop : MtM X "list.pop" rPop := by
  intro pins s σ H x vs v us Q I rx rv h
  obtain ⟨l, xs, y, rfl, rfl, hH, hy, q⟩ := h
  cases rx
  have hus := rv.zero
  subst hus
  obtain ⟨z, its, n, r, hl, e⟩ := I.lstM hH
  obtain ⟨u, hu, ru⟩ := r.get hy
  have hy' : its.toArray[its.toArray.size - 1]? = some u := by
    show its.toArray[its.length - 1]? = some u
    rw [← Array.getElem?_toList, ← hl]
    exact hu
  refine call_meets F.slot_list_pop ⟨_, e, rfl⟩ F.entry_list_pop (F.args_list_pop_1 _) (MeetsSeq.list_pop_last l its.toArray n u hy' (by rw [List.size_toArray]; omega)) ⟨e, ?_⟩
  refine ⟨y, _, I.lset (its' := its.dropLast) hH e ?_ r.dropLast ?_, ru, q⟩
  · show its.toArray.eraseIdxIfInBounds (its.toArray.size - 1) = its.dropLast.toArray
    rw [List.size_toArray, List.eraseIdxIfInBounds_toArray, erase_last]
  · rw [List.length_dropLast]
    omega

def rPopAt : V → List V → Hp → VK → Prop := fun x vs H Q => ∃ l xs i k y, x = .ref l ∧ vs = [.int i] ∧ H l = some (.lst xs) ∧ -(2 ^ 63) ≤ i ∧ i < 2 ^ 63 ∧ seqIndex? i xs.length = some k ∧ xs[k]? = some y ∧ Q y (upd H l (.lst (xs.eraseIdx k)))
theorem mt_popAt : MtM X "list.pop" rPopAt := by
  intro pins s σ H x vs v us Q I rx rv h
  obtain ⟨l, xs, i, k, y, rfl, rfl, hH, h1, h2, hk, hy, q⟩ := h
  cases rx
  obtain ⟨u, rfl, ru⟩ := rv.one
  obtain ⟨t, rfl⟩ := ru
  obtain ⟨z, its, n, r, hl, e⟩ := I.lstM hH
  obtain ⟨w, hw, rw'⟩ := r.get hy
  refine call_meets F.slot_list_pop ⟨_, e, rfl⟩ F.entry_list_pop (F.args_list_pop_2 _ _)
    (MeetsSeq.list_pop_at l its.toArray n i t k w (fitsIndex_both h1 h2) (by rw [List.size_toArray, ← hl]; exact hk) (by rw [← Array.getElem?_toList]; exact hw) (by rw [List.size_toArray]; omega)) ⟨e, ?_⟩
  refine ⟨y, _, I.lset (its' := its.eraseIdx k) hH e ?_ (r.eraseIdx k) ?_, rw', q⟩
  · show its.toArray.eraseIdxIfInBounds k = (its.eraseIdx k).toArray
    rw [List.eraseIdxIfInBounds_toArray]
  · have := len_erase xs k
    omega

def rReverse : V → List V → Hp → VK → Prop := fun x vs H Q => ∃ l xs, x = .ref l ∧ vs = [] ∧ H l = some (.lst xs) ∧ Q .non (upd H l (.lst xs.reverse))
theorem mt_reverse : MtM X "list.reverse" rReverse := by
  intro pins s σ H x vs v us Q I rx rv h
  obtain ⟨l, xs, rfl, rfl, hH, q⟩ := h
  cases rx
  have hus := rv.zero
  subst hus
  obtain ⟨z, its, n, r, hl, e⟩ := I.lstM hH
  refine call_meets F.slot_list_reverse ⟨_, e, rfl⟩ F.entry_list_reverse (F.args_list_reverse_1 _) (AutoSeq1.list_reverse_list_0 l its.toArray n (by rw [List.size_toArray]; omega)) ⟨e, ?_⟩
  refine ⟨.non, _, I.lset (its' := its.reverse) hH e (by simp) r.reverse ?_, rfl, q⟩
  rw [List.length_reverse]
  omega

def rClear : V → List V → Hp → VK → Prop := fun x vs H Q => ∃ l xs, x = .ref l ∧ vs = [] ∧ H l = some (.lst xs) ∧ Q .non (upd H l (.lst []))
theorem mt_clear : MtM X "list.clear" rClear := by
  intro pins s σ H x vs v us Q I rx rv h
  obtain ⟨l, xs, rfl, rfl, hH, q⟩ := h
  cases rx
  have hus := rv.zero
  subst hus
  obtain ⟨z, its, n, r, hl, e⟩ := I.lstM hH
  refine call_meets F.slot_list_clear ⟨_, e, rfl⟩ F.entry_list_clear (F.args_list_clear_1 _) (AutoSeq1.list_clear_list_0 l its.toArray n (by rw [List.size_toArray]; omega)) ⟨e, ?_⟩
  exact ⟨.non, _, I.lset (its' := []) (ys := []) hH e rfl .nil (Nat.zero_le _), rfl, q⟩

/-! ### list + list, list += list, list * int -/
def rCat : R2 := fun x y H Q => ∃ l b xs zs, x = .ref l ∧ y = .ref b ∧ H l = some (.lst xs) ∧ H b = some (.lst zs) ∧ xs.length + zs.length ≤ sizeLine ∧ ∀ p, H p = none → Q (.ref p) (upd H p (.lst (xs ++ zs)))
theorem op_cat : OpR X (binaryOp .Add) rCat := by
  intro pins s σ H x y v u Q I rx ry h
  obtain ⟨l, b, xs, zs, rfl, rfl, hH, hB, hz, q⟩ := h
  cases rx
  cases ry
  obtain ⟨z, its, n, r, hl, e⟩ := I.lstM hH
  obtain ⟨z2, its2, n2, r2, hl2, e2⟩ := I.lstM hB
  refine PySem.P.add_list e e2 ?_ (by rw [List.size_toArray, List.size_toArray]; omega)
  have ea : its.toArray ++ its2.toArray = (its ++ its2).toArray := by simp
  rw [ea]
  exact ⟨.ref _, _, I.lnew (t' := s.toks) (r.append r2) (by rw [List.length_append]; omega), rfl, q _ I.fresh⟩
/-- a list times an int (a negative one is nothing) -/
def rRep : R2 := fun x y H Q => ∃ l k xs, x = .ref l ∧ y = .int k ∧ H l = some (.lst xs) ∧ -(2 ^ 63) ≤ k ∧ k < 2 ^ 63 ∧ xs.length * k.toNat ≤ sizeLine ∧
  ∀ p, H p = none → Q (.ref p) (upd H p (.lst (List.replicate k.toNat xs).flatten))
theorem len_rep {α : Type} (xs : List α) (k : Nat) : (List.replicate k xs).flatten.length = k * xs.length := by
  induction k with
  | zero => simp
  | succ k ih => rw [List.replicate_succ, List.flatten_cons, List.length_append, ih, Nat.succ_mul, Nat.add_comm]
theorem op_rep : OpR X (binaryOp .Mult) rRep := by
  intro pins s σ H x y v u Q I rx ry h
  obtain ⟨l, k, xs, rfl, rfl, hH, h1, h2, hz, q⟩ := h
  cases rx
  obtain ⟨t, rfl⟩ := ry
  obtain ⟨z, its, n, r, hl, e⟩ := I.lstM hH
  have hlen : its.toArray.size * k.toNat ≤ sizeLine := by rw [List.size_toArray, ← hl]; exact hz
  have hcap : ¬ its.toArray.size * k.toNat > (2 ^ 63 - 1) / 8 := by
    have : (sizeLine : Nat) ≤ (2 ^ 63 - 1) / 8 := by decide
    omega
  have hfit : ¬ (!Builtin.List.listFitsIndex k) = true := by
    rw [fitsIndex_both h1 h2]
    exact Bool.false_ne_true
  have hlong : ¬ Builtin.List.listTooLong (its.toArray.size * k.toNat) = true := by
    rw [notLongL hlen]
    exact Bool.false_ne_true
  have hnew : List.foldl (fun x1 x2 => x1 ++ x2) #[] (List.replicate (if its.toArray.isEmpty = true then 0 else k.toNat) its.toArray) = (List.replicate k.toNat its).flatten.toArray := by
    have f0 : ∀ m : Nat, List.foldl (fun x1 x2 => x1 ++ x2) #[] (List.replicate m its.toArray) = (List.replicate m its).flatten.toArray := fun m => by
      have := foldl_rep its m []
      rw [List.nil_append] at this
      exact this
    rw [f0]
    cases its with
    | nil => simp
    | cons a r' => rw [if_neg (by simp)]
  refine wpAny_binaryOp_repeat_ref (T := "list") (U := "int") (by decide) ⟨_, e, rfl⟩ (fun s' => typeIs_int s' k t) noFill_list_mul F.fills_int_mul F.slot_int_rmul repeat_list F.slot_int_index.lookup
    (call_meets F.slot_int_rmul (typeIs_int s k t) F.entry_int_rmul (F.args_int_rmul_2 _ _) (int___rmul___int_list k t l its.toArray n)
      ⟨e, rfl, ⟨_, e, rfl⟩, call_meets F.slot_list_mul ⟨_, e, rfl⟩ F.entry_list_mul (F.args_list_mul_2 _ _) (AutoListH.list___mul___list_int_3 l its.toArray n k t hfit hcap hlong) ⟨e, ?_⟩⟩)
  rw [hnew]
  exact ⟨.ref _, _, I.lnew (t' := s.toks) (r.rep k.toNat) (by rw [len_rep, Nat.mul_comm]; exact hz), rfl, q _ I.fresh⟩

/-! ### del xs[i] -/
theorem del_list {pins : List (Addr × Obj)} {s : Shared} {σ : St} {H : Hp} {l : Addr} {xs : List V} {i : Int} {t : Tok} {k : Nat} {Q : Unit → Shared → Prop} (I : Inv X pins σ H s) (hH : H l = some (.lst xs))
    (h1 : -(2 ^ 63) ≤ i) (h2 : i < 2 ^ 63) (hk : seqIndex? i xs.length = some k) (h : ∀ s', Inv X pins σ (upd H l (.lst (xs.eraseIdx k))) s' → Q () s') :
    wpAny (model X.prog X.w) X.A (delItem (.ref l) (.int i t)) Q X.xe s := by
  obtain ⟨z, its, n, r, hl, e⟩ := I.lstM hH
  refine PySem.P.delItem_list (k := k) e (fitsIndex_both h1 h2) (by rw [List.size_toArray, ← hl]; exact hk) (h _ ?_) (by rw [List.size_toArray]; omega)
  refine I.lset (its' := its.eraseIdx k) (t' := s.toks) hH e ?_ (r.eraseIdx k) ?_
  · show its.toArray.eraseIdxIfInBounds k = (its.eraseIdx k).toArray
    rw [List.eraseIdxIfInBounds_toArray]
  · have := len_erase xs k
    omega
end

/-! ### xs[a:b] = ys -/
section
variable {prog : Program} {w : World} {A : Around} {E : Value → Shared → Prop} {s : Shared}
theorem splice_eq (its its2 : List Value) (a c : Nat) : its.toArray.extract 0 a ++ its2.toArray ++ its.toArray.extract c its.toArray.size = (its.take a ++ its2 ++ its.drop c).toArray := by
  apply Array.toList_inj.mp
  first
    | (simp
       exact List.take_of_length_le (by simp))
    | simp [List.take_of_length_le]
    | simp
theorem bounds_run {a c n : Nat} (hac : a ≤ c) (hc : c ≤ n) : sliceBounds (some (a : Int)) (some (c : Int)) none n = ((a : Int), (c : Int), 1) := by
  simp only [sliceBounds, Option.getD_none]
  have h1 : ¬ ((a : Int) < 0) := by omega
  have h2 : ¬ ((c : Int) < 0) := by omega
  simp only [h1, h2, if_false, show (1 : Int) > 0 by decide, if_true]
  congr 1
  · omega
  · congr 1; omega
set_option maxRecDepth 100000 in
/-- list.__setitem__ with a slice of step one and another list -/
theorem setItem_slice {l b sl : Addr} {items new : Array Value} {n n2 : Nat} {vl vu : Value} {a c : Nat} {Q : Unit → Shared → Prop}
    (e : s.heap.get? l = some { cls := .type "list", data := .seq items n }) (e2 : s.heap.get? b = some { cls := .type "list", data := .seq new n2 }) (hne : l ≠ b)
    (hs : s.heap.IsSliceOf sl vl vu .none) (pl : IsPart vl (some (a : Int))) (pu : IsPart vu (some (c : Int))) (hac : a ≤ c) (hc : c ≤ items.size)
    (hsz : items.size + new.size ≤ sizeLine) (h : Q () { s with heap := s.heap.update l (Obj.mapSeq fun xs => xs.extract 0 a ++ new ++ xs.extract c xs.size) }) :
    wpAny (model prog w) A (setItem (.ref l) (.ref sl) (.ref b)) Q E s := by
  have hl : s.heap.IsList l items := PySem.IsL.isList e
  have hb : s.heap.IsList b new := PySem.IsL.isList e2
  obtain ⟨os, hos, hcs, hds⟩ := id hs
  have hTs : s.TypeIs (.ref sl) "slice" := ⟨os, hos, hcs⟩
  have hstep : ¬ ((rawPart none == rawInt 0) = true) := Bool.false_ne_true
  have hsame : Builtin.List.listSameRef (.ref l) (.ref b) = false := by
    unfold Builtin.List.listSameRef
    exact beq_eq_false_iff_ne.mpr hne
  have hmax : (max (a : Int) (c : Int)).toNat = c := by omega
  have hz' : ((fun xs : Array Value => xs.extract 0 a ++ new ++ xs.extract c xs.size) items).size ≤ sizeLine + 1 := by
    simp only [Array.size_append, Array.size_extract]
    omega
  unfold setItem
  try with_reducible refine wpAny_holding ?_
  first | refine wpAny_bind (wpAny_pure ?_) | skip
  refine wpAny_bind (wpAny_sequenceKey hl.typeIs (by decide) ?_)
  refine wpAny_bind (wpAny_callSpecial?_slot (name := Str.ofString "__setitem__") hl.typeIs slot_list_setitem
    (wpAny_call_entry slot_list_setitem hl.typeIs entry_list_setitem ?_ (args_list_setitem _ _ _)))
  show wpAny _ _ (Builtin.List.listSubscript? (.ref sl) >>= _) _ _ s
  refine wpAny_bind ?_
  unfold Builtin.List.listSubscript?
  refine wpAny_bind (wpAny_specialOf hTs slice_no_index ?_)
  simp only [Option.isNone_none, if_true]
  refine wpAny_pure ?_
  show wpAny _ _ (typeOf (.ref sl) >>= _) _ _ s
  refine wpAny_bind (wpAny_typeOf hTs ?_)
  first
    | rw [if_neg (by decide)]
    | refine PySem.W.KFB.if_not (by decide) ?_
  rw [listSliceParts_eq]
  refine wpAny_bind (wpAny_bind (wpAny_field hos hds (x := .none) rfl (wpAny_bind (wpAny_listPart .none ?_))))
  rw [if_neg hstep]
  refine wpAny_bind (wpAny_field hos hds (x := vl) rfl (wpAny_bind (wpAny_listPart pl ?_)))
  refine wpAny_bind (wpAny_field hos hds (x := vu) rfl (wpAny_bind (wpAny_listPart pu (wpAny_pure ?_))))
  first
    | simp only [hsame, Bool.false_eq_true, if_false]
    | refine PySem.W.KFB.if_not hsame ?_
    | (dsimp only
       rw [if_neg (by rw [hsame]; exact Bool.false_ne_true)])
  refine wpAny_bind (m := Builtin.List.listAllItems (.ref b) "must assign iterable to extended slice") ?_
  unfold Builtin.List.listAllItems
  refine wpAny_bind (wpAny_typeOf hb.typeIs ?_)
  first
    | refine PySem.W.KFB.if_so (by decide) ?_
    | rw [if_pos (by decide)]
    | simp only [beq_self_eq_true, Bool.true_or, if_true]
  unfold Builtin.List.listItems
  refine wpAny_bind (wpAny_seqItems e2 rfl (wpAny_pure ?_))
  refine wpAny_bind (wpAny_bind (wpAny_seqItems e rfl (wpAny_pure ?_)))
  refine wpAny_bind (wpAny_of_eq ((sliceIndices_raw (some (a : Int)) (some (c : Int)) none items.size (by simp)).trans (congrArg (pure : Int × Int × Int → Sem (Int × Int × Int)) (bounds_run hac hc))) ?_)
  show wpAny _ _ (if ((1 : Int) == 1) = true then _ else _) _ _ s
  rw [if_pos (by decide)]
  refine wpAny_bind (wpAny_rule ?_)
  first
    | simp only [notLongL hsz, Bool.false_eq_true, if_false]
    | refine PySem.W.KFB.if_not (notLongL hsz) ?_
  first | refine wpAny_bind (wpAny_pure ?_) | skip
  show wpAny _ _ (updateSeq l (fun xs => xs.extract 0 ((a : Int)).toNat ++ new ++ xs.extract (max (a : Int) (c : Int)).toNat xs.size) >>= _) _ _ s
  rw [hmax, Int.toNat_natCast]
  refine wpAny_bind (wpAny_updateSeq (hz := Nat.le_trans (Nat.le_add_right _ _) hsz) (_hz' := hz') e rfl ?_)
  refine wpAny_bind (wpAny_letGo ?_)
  first
    | exact wpAny_bind (wpAny_pure (wpAny_pure ⟨.none, rfl, wpAny_pure h⟩))
    | exact wpAny_pure ⟨.none, rfl, wpAny_pure h⟩
end

section
variable {X : Cx}
/-- xs[a:c] = ys of another list, at the value level: sl is the slice object that was just made -/
theorem set_slice {pins : List (Addr × Obj)} {s : Shared} {σ : St} {H : Hp} {l b sl : Addr} {xs ys : List V} {a c : Int} {vl vu : Value} {Q : Unit → Shared → Prop} (I : Inv X pins σ H s)
    (hH : H l = some (.lst xs)) (hB : H b = some (.lst ys)) (hne : l ≠ b) (hs : s.heap.IsSliceOf sl vl vu .none) (ra : RelV (.int a) vl) (rc : RelV (.int c) vu) (h0 : 0 ≤ a) (hac : a ≤ c) (hc : c ≤ xs.length)
    (hz : xs.length + ys.length ≤ sizeLine) (h : ∀ s', Inv X pins σ (upd H l (.lst (xs.take a.toNat ++ ys ++ xs.drop c.toNat))) s' → Q () s') :
    wpAny (model X.prog X.w) X.A (setItem (.ref l) (.ref sl) (.ref b)) Q X.xe s := by
  obtain ⟨ta, rfl⟩ := ra
  obtain ⟨tc, rfl⟩ := rc
  obtain ⟨z, its, n, r, hl, e⟩ := I.lstM hH
  obtain ⟨z2, its2, n2, r2, hl2, e2⟩ := I.lstM hB
  obtain ⟨a', rfl⟩ := Int.eq_ofNat_of_zero_le h0
  obtain ⟨c', rfl⟩ := Int.eq_ofNat_of_zero_le (Int.le_trans h0 hac)
  simp only [Int.toNat_natCast] at h
  refine setItem_slice (a := a') (c := c') e e2 hne hs (.int _ _) (.int _ _) (by omega) (by rw [List.size_toArray]; omega) (by rw [List.size_toArray, List.size_toArray]; omega) (h _ ?_)
  refine I.lset (its' := its.take a' ++ its2 ++ its.drop c') (t' := s.toks) hH e ?_ (Vals.append (Vals.append (r.take _) r2) (r.drop _)) ?_
  · exact splice_eq its its2 a' c'
  · rw [List.length_append, List.length_append, List.length_take, List.length_drop]
    omega
end
end L2

namespace Att
open PySem PySem.W PySem.Calls PyProof.Rows

/-! ### the script -/
theorem ints_of_wellAll {P : Params} {h : Heap} : ∀ (ns : List Int) (vs : List Value), WellAll P h vs (ns.map WData.int) → IntsAre vs ns := by
  intro ns
  induction ns with
  | nil =>
    intro vs w
    rw [List.map_nil] at w
    cases w
    exact .nil
  | cons n ns ih =>
    intro vs w
    rw [List.map_cons] at w
    cases w with
    | cons a b =>
      cases a
      exact .cons _ _ (ih _ b)

theorem script_of {l : OpenLaw} {n : Nat} (hn : l.most = some n) {P : Params} {h : Heap} {args : List WData} {vals : List Value}
    (hpre : l.row.toRowW.claim.pre args = true) (hwl : WellAll P h vals args) :
    ∃ a vs ns, vals = [Value.ref a] ∧ args = [WData.list (ns.map WData.int)] ∧ h.get? a = some { cls := .type "list", data := .seq vs.toArray } ∧ IntsAre vs ns ∧ ns.length ≤ n := by
  have hsh : WShape.hasAll [] args [.list .int] = true := (pre_splitW hpre).1
  have hc : l.pre.holds [] { args := args } = true := (pre_splitW hpre).2
  obtain ⟨d, r, rfl, h1, h2⟩ := hasAllW_cons hsh
  obtain rfl := hasAllW_nil h2
  obtain ⟨xs, rfl, h3⟩ := hasW_list h1
  obtain ⟨ns, rfl⟩ := items_int h3
  have hlen : ns.length ≤ n := by
    unfold OpenLaw.pre at hc
    have h4 : (WTm.not (.lt (.lit (.int (n : Int))) (.len (.arg 0)))).holds [] { args := [.list (ns.map .int)] } = true := by
      have h4 := (holds_andW hc).1
      rw [hn] at h4
      exact h4
    have h5 := condW_of h4 (w_not (w_lt w_lit (w_len_list (w_arg rfl))))
    rw [List.length_map] at h5
    refine Nat.le_of_not_lt fun q => ?_
    have q' : (n : Int) < ((ns.length : Nat) : Int) := by omega
    first
      | (rw [decide_eq_true q'] at h5; exact absurd h5 (by decide))
      | (simp at h5; omega)
  cases hwl with
  | cons w1 w2 =>
    cases w2
    cases w1 with
    | list ho hall => exact ⟨_, _, ns, rfl, rfl, ho, ints_of_wellAll ns _ hall, hlen⟩

theorem post_true (l : OpenLaw) (args : List WData) : l.row.toRowW.claim.post args (.bool true) args = true :=
  postW_of (r := l.row.toRowW) (X := (true == true))
    (show WShape.has [] (.bool true) .bool = true by first | rfl | decide | simp [WShape.has, WShape.arms, WShape.armsAll])
    (show (WTm.eq .res (.lit (.bool true))).value [] { args := args, res := some (.bool true), after := args } = some (.bool (true == true)) from w_eq_bool (w_res rfl) w_lit) rfl

/-! ### the attachment: holds_open's last premise (the goal 'hc' behind k_head) from a wpAny of the law's body -/
theorem attach {l : OpenLaw} {n : Nat} {q : Program} {loose : List Str} {XP : (Str → Option Value) → Heap → Prop} {YP : World → Heap → Prop} {d : DefRec} {x : Str}
    (hn : l.most = some n) (hdf : d.params.defaults = [])
    (hbind : ∀ pm cd doc v : Value, bindArgs (docDef d.name d.params d.body d.scope pm cd doc) ⟨[v], []⟩ = pure [(x, v)])
    (hx : d.scope.names.lookup x = some .local ∨ d.scope.names.lookup x = some .cell)
    (hk : d.scope.kind = .function) (hco : d.scope.isCoroutine = false) (hgen : d.scope.isGenerator = false)
    (body : ∀ (w : World) (s₀ s₁ s : Shared) (mg mb : Str → Option Value) (fa : Addr) (o : Obj) (pm cd doc : Value) (a : Addr) (vs : List Value) (ns : List Int),
      Ground q loose [] XP w s₀ mg mb s₁.heap → YP w s₁.heap →
      s₁.heap.get? fa = some o → o.data = .func (docDef d.name d.params d.body d.scope pm cd doc) → s₁.heap.CodeRec cd d.name → mg d.name = some (.ref fa) →
      s₁.heap.get? a = some { cls := .type "list", data := .seq vs.toArray } → IntsAre vs ns → ns.length ≤ n →
      s.gens = #[] → s.os = s₁.os →
      Fr s₁.heap s₁.heap.objs.size s.heap (bindL (envOfC d.name d.scope s₁.heap.objs.size fa cd).kindOf [(x, .ref a)] fun _ => none) →
      Cl s₁.heap.objs.size (cellsFrom (s₁.heap.objs.size + 1) d.scope.names []) s.heap (bindC (envOfC d.name d.scope s₁.heap.objs.size fa cd).kindOf [(x, .ref a)] fun _ => none) →
      wpAny (model l.prog w) (callerA.deeper (envOfC d.name d.scope s₁.heap.objs.size fa cd)) (execs d.body (envOfC d.name d.scope s₁.heap.objs.size fa cd))
        (fun f s' => f = .ret (.bool true) ∧ OldK s₁.heap s'.heap ∧ s'.os = s₁.os ∧ AllBare s'.gens) (fun _ _ => False) s) :
    WalkO q loose XP YP l.row.toRowW d [] (fun f vs => PySem.call f vs) := by
  intro w s₀ s₁ mg mb G Y fa o pm cd doc dV kV ho hd hcd hD hmg hg args vals as hpre hlay hrd hwl hlo
  obtain rfl : dV = .none := Dflts.none hD hdf
  obtain rfl : kV = .none := Dflts.noKw hD
  obtain ⟨a, vs, ns, rfl, rfl, hobj, hints, hlen⟩ := script_of hn hpre hwl
  refine enter_call ?_
  refine call_cells_ret (o := o) (by rw [depth_caller]; decide) ho (fd_plain hd) G.T.nolimit hcd (hbind pm cd doc (.ref a)) (fun y hy => ?_) (fun h₁ tk F X => ?_) hco hgen hk
  · obtain rfl : y = (x, Value.ref a) := List.mem_singleton.mp hy
    rcases hx with e | e
    · exact .inl e
    · exact .inr ⟨e, cellsFrom_some _ _ _ (.inl e)⟩
  · refine wpAny_mono (body w s₀ s₁ { s₁ with heap := h₁, toks := tk } mg mb fa o pm cd doc a vs ns G Y ho (fd_plain hd) hcd hmg hobj hints hlen hg rfl F X) (fun f s' hq => ?_) (fun _ _ hq => hq)
    obtain ⟨rfl, h2, h3, h4⟩ := hq
    exact ⟨.inl ⟨.bool true, .bool true, [], rfl, fun _ => rfl, .bool true, post_true l _, fun _ => ⟨List.Pairwise.nil, fun _ hm => (nomatch hm)⟩⟩, h2, h3, h4⟩

/-- the same from a codeAny of the CALL (for a layer whose function contracts speak of calls) -/
theorem attach_call {l : OpenLaw} {n : Nat} {q : Program} {loose : List Str} {XP : (Str → Option Value) → Heap → Prop} {YP : World → Heap → Prop} {d : DefRec}
    (hn : l.most = some n) (hdf : d.params.defaults = [])
    (call : ∀ (w : World) (s₀ s₁ : Shared) (mg mb : Str → Option Value) (fa : Addr) (o : Obj) (pm cd doc : Value) (a : Addr) (vs : List Value) (ns : List Int),
      Ground q loose [] XP w s₀ mg mb s₁.heap → YP w s₁.heap →
      s₁.heap.get? fa = some o → o.data = .func (docDef d.name d.params d.body d.scope pm cd doc) → s₁.heap.CodeRec cd d.name → mg d.name = some (.ref fa) →
      s₁.heap.get? a = some { cls := .type "list", data := .seq vs.toArray } → IntsAre vs ns → ns.length ≤ n → s₁.gens = #[] →
      codeAny (model l.prog w) callerA (.call (.ref fa) ⟨[.ref a], []⟩) (fun r s' => r = .ok (.ret (.bool true)) ∧ OldK s₁.heap s'.heap ∧ s'.os = s₁.os ∧ AllBare s'.gens) s₁) :
    WalkO q loose XP YP l.row.toRowW d [] (fun f vs => PySem.call f vs) := by
  intro w s₀ s₁ mg mb G Y fa o pm cd doc dV kV ho hd hcd hD hmg hg args vals as hpre hlay hrd hwl hlo
  obtain rfl : dV = .none := Dflts.none hD hdf
  obtain rfl : kV = .none := Dflts.noKw hD
  obtain ⟨a, vs, ns, rfl, rfl, hobj, hints, hlen⟩ := script_of hn hpre hwl
  refine enter_call (codeAny_mono (call w s₀ s₁ mg mb fa o pm cd doc a vs ns G Y ho (fd_plain hd) hcd hmg hobj hints hlen hg) fun r s' hq => ?_)
  obtain ⟨rfl, h2, h3, h4⟩ := hq
  exact ⟨.inl ⟨.bool true, .bool true, [], rfl, fun _ => rfl, .bool true, post_true l _, fun _ => ⟨List.Pairwise.nil, fun _ hm => (nomatch hm)⟩⟩, h2, h3, h4⟩

/-- the same where the top left finished generators (o_head chose holds_openN): nothing may have changed at all and no generator may be left -/
theorem attachN {l : OpenLaw} {n : Nat} {q : Program} {loose : List Str} {XP : (Str → Option Value) → Heap → Prop} {YP : World → Heap → Prop} {d : DefRec} {x : Str}
    (hn : l.most = some n) (hdf : d.params.defaults = [])
    (hbind : ∀ pm cd doc v : Value, bindArgs (docDef d.name d.params d.body d.scope pm cd doc) ⟨[v], []⟩ = pure [(x, v)])
    (hx : d.scope.names.lookup x = some .local ∨ d.scope.names.lookup x = some .cell)
    (hk : d.scope.kind = .function) (hco : d.scope.isCoroutine = false) (hgen : d.scope.isGenerator = false)
    (body : ∀ (w : World) (s₀ s₁ s : Shared) (mg mb : Str → Option Value) (fa : Addr) (o : Obj) (pm cd doc : Value) (a : Addr) (vs : List Value) (ns : List Int),
      Ground q loose [] XP w s₀ mg mb s₁.heap → YP w s₁.heap →
      s₁.heap.get? fa = some o → o.data = .func (docDef d.name d.params d.body d.scope pm cd doc) → s₁.heap.CodeRec cd d.name → mg d.name = some (.ref fa) →
      s₁.heap.get? a = some { cls := .type "list", data := .seq vs.toArray } → IntsAre vs ns → ns.length ≤ n →
      s.gens = #[] → s.os = s₁.os →
      Fr s₁.heap s₁.heap.objs.size s.heap (bindL (envOfC d.name d.scope s₁.heap.objs.size fa cd).kindOf [(x, .ref a)] fun _ => none) →
      Cl s₁.heap.objs.size (cellsFrom (s₁.heap.objs.size + 1) d.scope.names []) s.heap (bindC (envOfC d.name d.scope s₁.heap.objs.size fa cd).kindOf [(x, .ref a)] fun _ => none) →
      wpAny (model l.prog w) (callerA.deeper (envOfC d.name d.scope s₁.heap.objs.size fa cd)) (execs d.body (envOfC d.name d.scope s₁.heap.objs.size fa cd))
        (fun f s' => f = .ret (.bool true) ∧ (∀ b o, s₁.heap.get? b = some o → s'.heap.get? b = some o) ∧ s'.os = s₁.os ∧ s'.gens = #[]) (fun _ _ => False) s) :
    WalkN q loose XP YP l.row.toRowW d [] (fun f vs => PySem.call f vs) := by
  intro w s₀ s₁ mg mb G Y fa o pm cd doc dV kV ho hd hcd hD hmg hg args vals as hpre hlay hrd hwl hlo
  obtain rfl : dV = .none := Dflts.none hD hdf
  obtain rfl : kV = .none := Dflts.noKw hD
  obtain ⟨a, vs, ns, rfl, rfl, hobj, hints, hlen⟩ := script_of hn hpre hwl
  refine enter_callW ?_
  refine call_cells_ret (o := o) (by rw [depth_caller]; decide) ho (fd_plain hd) G.T.nolimit hcd (hbind pm cd doc (.ref a)) (fun y hy => ?_) (fun h₁ tk F X => ?_) hco hgen hk
  · obtain rfl : y = (x, Value.ref a) := List.mem_singleton.mp hy
    rcases hx with e | e
    · exact .inl e
    · exact .inr ⟨e, cellsFrom_some _ _ _ (.inl e)⟩
  · refine wpAny_mono (body w s₀ s₁ { s₁ with heap := h₁, toks := tk } mg mb fa o pm cd doc a vs ns G Y ho (fd_plain hd) hcd hmg hobj hints hlen hg rfl F X) (fun f s' hq => ?_) (fun _ _ hq => hq)
    obtain ⟨rfl, h2, h3, h4⟩ := hq
    exact ⟨.inl ⟨.bool true, .bool true, [], rfl, fun _ => rfl, .bool true, post_true l _, fun _ => ⟨List.Pairwise.nil, fun _ hm => (nomatch hm)⟩⟩, h2, h3, h4⟩

/-! ### rules over ANY heap (no ledger) from facts about the written part K: the library's own take a ledger (News) for what they write -/
section
variable {prog : Program} {w : World} {A : Around} {E : Value → Shared → Prop} {s : Shared} {K : Frag}

/-- a def of the module, or a method (qual 'C.m'), entered: the frame is the next address; cells behind it -/
theorem call_fn {R : Result → Shared → Prop} {name qual : Str} {params : Arguments} {body : List Stmt} {scope : Scope} {dV kV doc pm cdv ct oc : Value} {an od : Option Addr} {osl : Array (Option Value)} {f : Addr} {args : Args} {binds : List (Str × Value)}
    (X : K.In s.heap) (hlim : s.heap.NoLimit) (ho : K.lookup f = some ⟨oc, od, .func (fnOf name qual params body scope dV kV doc pm an cdv ct), osl⟩) (hcd : codeIn K cdv qual = true) (hroom : A.depth < recursionLimit)
    (hbind : BindsTo s (fnOf name qual params body scope dV kV doc pm an cdv ct) args binds)
    (hkind : (binds.all fun y => scope.names.lookup y.1 == some .local || scope.names.lookup y.1 == some .cell) = true)
    (h : ∀ s₁, InCallC s s.heap.objs.size (bindL (envOfC qual scope s.heap.objs.size f cdv).kindOf binds fun _ => none) (cellsFrom (s.heap.objs.size + 1) scope.names [])
        (bindC (envOfC qual scope s.heap.objs.size f cdv).kindOf binds fun _ => none) s₁ →
      wpAny (model prog w) (A.deeper (envOfC qual scope s.heap.objs.size f cdv)) (execs body (envOfC qual scope s.heap.objs.size f cdv))
        (fun fl s' => R (.ok (.ret (match fl with | .ret v => v | _ => .none))) s')
        (fun e s' => wpAny (model prog w) (A.deeper (envOfC qual scope s.heap.objs.size f cdv)) (leaving (envOfC qual scope s.heap.objs.size f cdv) e) (fun _ s'' => R (.error e) s'') (fun e' s'' => R (.error e') s'') s') s₁)
    (hco : scope.isCoroutine = false) (hgen : scope.isGenerator = false) (hk : scope.kind = .function) : codeAny (model prog w) A (.call (.ref f) args) R s := by
  refine codeAny_call_function hroom (X _ _ ho) rfl hco hgen rfl (codeRec_of X hcd) (hbind _ _ _ _ ?_)
  refine wpAny_newFunctionEnv_cells hk (kindsX hkind _) fun env he s₁ x => ?_
  subst he
  exact ⟨hlim.keeps x.toInCall.keep, codeAny_func (h s₁ x)⟩

/-- C(..): dict at size, instance at size + 1, then __init__ -/
theorem make_obj {R : Result → Shared → Prop} {C fI : Addr} {rest : List Value} {kw : List (Str × Value)}
    (X : K.In s.heap) (hm : makesIn K C = true) (hi : findIn K (.ref C) "__init__" = some (some (.ref fI))) (hf : isFn K (.ref fI) = true)
    (h : codeAny (model prog w) (A.under (.builtin "type.__call__" ⟨.ref C :: rest, kw⟩)) (.call (.ref fI) ⟨.ref (s.heap.objs.size + 1) :: rest, kw⟩) (InitBack (s.heap.objs.size + 1) R)
      { s with heap := (s.heap.push emptyDict).push (instObj C s.heap.objs.size) }) : codeAny (model prog w) A (.call (.ref C) ⟨rest, kw⟩) R s := by
  obtain ⟨hh, g, d, t, os⟩ := s
  exact make_core (makes_of X hm) (looks_findIn X hi) (fun self => bind_fn X self (beq_iff_eq.mp hf)) (.inl rfl) h

/-- x.name where the instance's dict holds the name and the class does not -/
theorem get_field {x C : Addr} {ox : Obj} {es : List DictEntry} {n : Nat} {name : Str} {expr : Bool} {v : Value} {Q : Value → Shared → Prop}
    (X : K.In s.heap) (I : PySem.W.InstAt s.heap x ox C (some (dictOf es n))) (hg : plainGet K C name = true) (hh : hasDictIn K C = true) (ha : findIn K (.ref C) name = some none)
    (hl : getL name es = some (some v)) (hv : handedIn v = true) (h : Q v { s with toks := s.toks + 1 }) : wpAny (model prog w) A (getAttr (.ref x) name expr) Q E s :=
  get_value X I (plainGet_of hg).1 (findObj_own hh ha rfl hl) hv h

/-- x.m(..): the method found in the class -/
theorem get_method {x C f : Addr} {ox : Obj} {es : List DictEntry} {n : Nat} {name : Str} {pl : Sem Bool} {Q : Value × List Value → Shared → Prop}
    (X : K.In s.heap) (I : PySem.W.InstAt s.heap x ox C (some (dictOf es n))) (hg : plainGet K C name = true) (hf : findIn K (.ref C) name = some (some (.ref f))) (ht : isFn K (.ref f) = true)
    (hl : getL name es = some none) (h : Q (.ref f, [.ref x]) s) : wpAny (model prog w) A (getMethod (.ref x) name pl) Q E s :=
  method_fn X I (plainGet_of hg).1 (plainGet_of hg).2 hf (beq_iff_eq.mp ht) (by show (lookIn name (dictOf es n)).map _ = _; rw [lookIn_dict, hl]; rfl) h

/-! the whole heap as the ledger: makes every rule that writes through a ledger a rule over any heap -/
def noObjs (h : Heap) : Heap := { h with objs := #[] }
theorem noObjs_get (h : Heap) (b : Addr) : (noObjs h).get? b = none := by
  cases e : (noObjs h).get? b with
  | none => rfl
  | some o => exact absurd (Heap.lt_size e) (Nat.not_lt_zero _)
def ledger (h : Heap) (L d : Addr) : List (Addr × Obj) := (List.range h.objs.size).filterMap fun a => if a = L ∨ a = d then none else (h.get? a).map fun o => (a, o)
theorem mem_ledger {h : Heap} {L d a : Addr} {o : Obj} : (a, o) ∈ ledger h L d ↔ a ≠ L ∧ a ≠ d ∧ h.get? a = some o := by
  unfold ledger
  rw [List.mem_filterMap]
  constructor
  · rintro ⟨b, _, e⟩
    split at e
    · cases e
    · rename_i hb
      obtain ⟨o', ho, e'⟩ := Option.map_eq_some_iff.mp e
      cases e'
      exact ⟨fun q => hb (.inl q), fun q => hb (.inr q), ho⟩
  · rintro ⟨n1, n2, ho⟩
    refine ⟨a, List.mem_range.mpr (Heap.lt_size ho), ?_⟩
    rw [if_neg (show ¬ (a = L ∨ a = d) from fun q => q.elim n1 n2), ho] <;> rfl
theorem news_ledger {h : Heap} {L d : Addr} {od : Obj} (hne : d ≠ L) (ho : h.get? d = some od) : News (noObjs h) L h ([] ++ (d, od) :: ledger h L d) := by
  rintro ⟨a, o⟩ hp
  rcases List.mem_cons.mp hp with e | hp
  · cases e
    exact ⟨ho, hne, noObjs_get _ _⟩
  · obtain ⟨n1, n2, e⟩ := mem_ledger.mp hp
    exact ⟨e, n1, noObjs_get _ _⟩
theorem fr_all {h : Heap} {L : Addr} {m : Str → Option Value} (n : h.Ns L m) : Fr (noObjs h) L h m :=
  ⟨n, fun b o e => (by rw [noObjs_get] at e; cases e), Nat.zero_le _⟩
/-- Upd of the head entry (for append_K, setItem_K ..) -/
theorem upd_ledger {h : Heap} {L d : Addr} {o o' : Obj} : Upd d o o' ((d, o) :: ledger h L d) ((d, o') :: ledger h L d) :=
  .head fun ⟨_, _⟩ hp => (mem_ledger.mp hp).2.1

/-- x.name = v over any heap: L is any namespace of the heap (the frame's, say): its map stays, its object is not told; all else but the dict stays -/
theorem set_field {x C dx L : Addr} {ox : Obj} {m : Str → Option Value} {es es' : List DictEntry} {n n' : Nat} {name : Str} {v : Value} {Q : Unit → Shared → Prop}
    (X : K.In s.heap) (I : PySem.W.InstAt s.heap x ox C (some (dictOf es n))) (hd : ox.dict = some dx) (hL : s.heap.Ns L m) (hne : dx ≠ L)
    (hs : findIn K (.ref C) "__setattr__" = some (some (.builtin "object.__setattr__"))) (hp : plainOver K C = true) (ht : takerIn K C name = some none) (hh : hasDictIn K C = true) (hl : (getL name es).isSome = true)
    (e : (putL name (PyData.keyHash w.params name) (.str name (s.toks + 1)) v es, putN name es n) = (es', n')) (hz : es'.length ≤ 1000)
    (h : ∀ h' : Heap, h'.Ns L m → h'.get? dx = some (dictOf es' n') → (∀ b o, b ≠ dx → b ≠ L → s.heap.get? b = some o → h'.get? b = some o) → Q () { s with heap := h', toks := s.toks + 2 }) :
    wpAny (model prog w) A (setAttr (.ref x) name v) Q E s := by
  obtain ⟨e1, e2⟩ := Prod.mk.inj e
  have hdx : s.heap.get? dx = some (dictOf es n) := by
    have := I.dict
    rw [hd] at this
    exact this
  refine set_plain X I hs (osa_dict (s := { s with toks := s.toks + 1 }) (h₀ := noObjs s.heap) (L := L) (m := m) (od := dictOf es n) (od' := dictOf es' n') (es := es') (n := n') (pre := []) (post := ledger s.heap L dx)
    (fr_all hL) (news_ledger hne hdx) X I hd hp ht hh hl (fun _ q => nomatch q) (fun ⟨_, _⟩ q => (mem_ledger.mp q).2.1) (by rw [putName_dict, e1, e2]) rfl hz fun h' F' N' => ?_)
  exact h h' F'.ns (N'.get (List.Mem.head _)) fun b o n1 n2 ho => N'.get (List.Mem.tail _ (mem_ledger.mpr ⟨n2, n1, ho⟩))
end
end Att

namespace L2
open PySem PySem.Spec PyProof.Rows

theorem vals_ints : ∀ {vs : List Value} {ns : List Int}, IntsAre vs ns → Vals (ns.map V.int) vs
  | _, _, .nil => .nil
  | _, _, .cons n t h => .cons ⟨t, rfl⟩ (vals_ints h)

/-- nothing is tracked but the script, known to the object (or it is an object of the module) -/
def Only (H : Hp) : Prop := ∀ b, H b = none ∨ ∃ o xs, H b = some (.frz o (.lst xs))

/-- THE HEAD: the law's promise, at the heap behind the top. F, the promise of the law's def, may use that base is part of the heap (so K.In base, base.Ns mainGlobals mg stand in Mod) -/
theorem law_call {P : Program} {w : World} {K : PySem.W.Frag} {mg mb : Str → Option Value} {CX : CXT} {k : Nat} {fa a : Addr} {fd : FuncData} {x : Str} {sp : Sp} {s₁ : Shared} {vs : List Value} {ns : List Int}
    (KX : K.In s₁.heap) (hns : s₁.heap.Ns mainGlobals mg) (hb : s₁.heap.Ns builtinsNs mb) (hbb : ∀ x : Str, x ≠ "__name__" → mb x = bootBuiltins x) (hlim : s₁.heap.NoLimit) (hg : s₁.gens = #[])
    (ha : s₁.heap.get? a = some { cls := .type "list", data := .seq vs.toArray }) (hi : IntsAre vs ns) (hl : ns.length ≤ sizeLine) (hr : Room k callerA)
    (F : ∀ base : Heap, K.In base → base.Ns mainGlobals mg → FnOk P w K mg base CX k fa fd [x] sp) (hbind : ∀ (s : Shared) (u : Value), BindsTo s fd ⟨[u], []⟩ [(x, u)])
    (hsp : ∀ H : Hp, Only H → SqL K H a (ns.map V.int) → sp [.ref a] H (fun v _ => v = .bl true) fun _ _ _ => False)
    (hCX : ∀ H e s', CX [] H s₁ (fun _ _ _ => False) e s' → False) :
    codeAny (model P w) callerA (.call (.ref fa) ⟨[.ref a], []⟩) (fun r s' => r = .ok (.ret (.bool true)) ∧ OldK s₁.heap s'.heap ∧ s'.os = s₁.os ∧ AllBare s'.gens) s₁ := by
  have rv := vals_ints hi
  have lenV := hi.length
  -- from an abstract heap in which nothing but the script may be tracked
  have core : ∀ H : Hp, Only H → SqL K H a (ns.map V.int) → HOk P w H s₁.heap → (∀ b, H b ≠ none → b = a) → (H a ≠ none → K.lookup a = none) →
      codeAny (model P w) callerA (.call (.ref fa) ⟨[.ref a], []⟩) (fun r s' => r = .ok (.ret (.bool true)) ∧ OldK s₁.heap s'.heap ∧ s'.os = s₁.os ∧ AllBare s'.gens) s₁ := by
    intro H hO hS hok hA hK
    have base_of : ∀ {b : Addr} {o : Obj}, s₁.heap.get? b = some o → H b = none → (hidT s₁.heap H).get? b = some o := fun e n => hidT_get e n
    have noA : ∀ {b : Addr} {o : Obj} {es : Array DictEntry} {ep : Nat}, s₁.heap.get? b = some o → o.data = .dict es ep → H b = none := fun {b o es ep} e d => by
      cases q : H b with
      | none => rfl
      | some u =>
        have e' : b = a := hA b (by rw [q]; simp)
        subst e'
        rw [ha] at e; cases e
        have d' : Data.seq vs.toArray _ = Data.dict es ep := d
        cases d'
    have nsK : ∀ {b : Addr} {m : Str → Option Value}, s₁.heap.Ns b m → (hidT s₁.heap H).Ns b m := fun {b m} ⟨o, es, ep, e, d, r⟩ => ⟨o, es, ep, base_of e (noA e d), d, r⟩
    have hKb : K.In (hidT s₁.heap H) := fun b o e => base_of (KX b o e) (by
      cases q : H b with
      | none => rfl
      | some u =>
        have e' : b = a := hA b (by rw [q]; simp)
        subst e'
        rw [hK (by rw [q]; simp)] at e; cases e)
    have hM : Mod K mg (hidT s₁.heap H) := ⟨hKb, nsK hns, ⟨mb, nsK hb, hbb⟩, let ⟨mc, h1, h2⟩ := hlim; ⟨mc, nsK h1, h2⟩⟩
    have e0 : Env0 P w K mg (hidT s₁.heap H) callerA [] s₁ H := ⟨rfl, hM, fun b o e => of_hidT e, Nat.le_of_eq (hidT_size _ _), trivial, fun b hb => absurd (show b ∈ ([] : List Addr) from hb) (by simp), hok, .of_eq hg⟩
    refine codeAny_mono ((F _ hKb (nsK hns)).run callerA [] s₁ H ⟨[.ref a], []⟩ [.ref a] [.ref a] _ _ hr e0 (hbind s₁ (.ref a)) (.cons rfl .nil) (hsp H hO hS)) fun r s' h => ?_
    cases r with
    | error e => exact (hCX H e s' h).elim
    | ok fl =>
      cases fl with
      | next => exact False.elim h
      | brk => exact False.elim h
      | cont => exact False.elim h
      | ret u =>
        obtain ⟨v, H', os, bare, un, hok', r', q⟩ := h
        have q' : v = .bl true := q
        subst q'
        obtain rfl : u = Value.bool true := r'
        refine ⟨rfl, OldK.of_keep fun b o e => ?_, os, bare⟩
        cases q : H b with
        | none => exact un.keep b o e q (by intro z; exact absurd (show b ∈ ([] : List Addr) from z) (by simp)) (by simp)
        | some u =>
          rcases hO b with z | ⟨ob, xs, z⟩
          · rw [q] at z; cases z
          · have z2 := un.frzs b ob _ z
            obtain ⟨e1, _⟩ := hok b _ z
            obtain ⟨e2, _⟩ := hok' b _ z2
            rw [e] at e1; cases e1
            exact e2
  cases hk : K.lookup a with
  | some o =>
    -- the script is one of the module's own objects
    have e := KX a o hk
    rw [ha] at e
    cases e
    refine core (fun _ => none) (fun _ => .inl rfl) (.inr ⟨_, vs.toArray, _, hk, rfl, rfl, rfl, by rw [List.size_toArray, lenV]; exact hl, by simpa using rv⟩) (fun b u z => by have z' : (none : Option HO) = some u := z; cases z') (fun b z => absurd rfl z) fun z => absurd rfl z
  | none =>
    refine core (fun b => if b = a then some (.frz { cls := .type "list", data := .seq vs.toArray } (.lst (ns.map V.int))) else none) (fun b => ?_) (.inl (.inr ⟨{ cls := .type "list", data := .seq vs.toArray }, if_pos rfl⟩)) (fun b u z => ?_) (fun b z => ?_) fun _ => hk
    · by_cases hb : b = a
      · exact .inr ⟨_, _, if_pos hb⟩
      · exact .inl (if_neg hb)
    · by_cases hb : b = a
      · have z' := (if_pos hb).symm.trans z
        cases z'
        subst hb
        exact ⟨ha, by rw [List.length_map]; exact hl, vs, _, rv, ha⟩
      · have z' := (if_neg hb).symm.trans z
        cases z'
    · by_cases hb : b = a
      · exact hb
      · exact absurd (if_neg hb) z
end L2

namespace L2
open PySem PySem.Spec PyProof.Rows

abbrev KOf {K : PySem.W.Frag} {h : Heap} (_ : K.In h) : PySem.W.Frag := K

/-- the goal that k_head leaves (case hc), from the law's promise. F gives the function object fd (K's own) once, then the promise over every base -/
theorem walk_of {l : PySem.W.OpenLaw} {n k : Nat} {q : Program} {loose : List Str} {XP : (Str → Option Value) → Heap → Prop} {YP : World → Heap → Prop} {d : DefRec} {K : Params → PySem.W.Frag} {CX : World → CXT} {sp : World → Sp} {x : Str}
    (hn : l.most = some n) (hn2 : n ≤ sizeLine) (hdf : d.params.defaults = []) (hr : Room k callerA)
    (hY : ∀ (w : World) (h : Heap), YP w h → (K w.params).In h)
    (F : ∀ (w : World) (mg : Str → Option Value) (fa : Addr) (h : Heap), (K w.params).In h → h.Ns mainGlobals mg → mg d.name = some (.ref fa) →
      ∃ fd : FuncData, (∀ (s : Shared) (u : Value), BindsTo s fd ⟨[u], []⟩ [(x, u)]) ∧
        ∀ base : Heap, (K w.params).In base → base.Ns mainGlobals mg → FnOk l.prog w (K w.params) mg base (CX w) k fa fd [x] (sp w))
    (hsp : ∀ (w : World) (H : Hp) (a : Addr) (ns : List Int), ns.length ≤ n → Only H → SqL (K w.params) H a (ns.map V.int) → sp w [.ref a] H (fun v _ => v = .bl true) fun _ _ _ => False)
    (hCX : ∀ (w : World) (H : Hp) (s : Shared) (e : Value) (s' : Shared), CX w [] H s (fun _ _ _ => False) e s' → False) :
    PySem.W.WalkO q loose XP YP l.row.toRowW d [] (fun f vs => PySem.call f vs) := by
  refine Att.attach_call hn hdf fun w s₀ s₁ mg mb fa o pm cd doc a vs ns G Y ho hd hcd hmg hobj hints hlen hg => ?_
  have KX := hY w _ Y
  obtain ⟨fd, hb, hF⟩ := F w mg fa _ KX G.T.g hmg
  exact law_call KX G.T.g G.T.b G.T.builtins G.T.nolimit hg hobj hints (Nat.le_trans hlen hn2) hr hF hb (fun H hO hS => hsp w H a ns hlen hO hS) fun H e s' => hCX w H s₁ e s'
/-- the same where the promise hangs on the written part alone: (sp := My.sp_law), no hole under a binder -/
theorem walk_ofK {l : PySem.W.OpenLaw} {n k : Nat} {q : Program} {loose : List Str} {XP : (Str → Option Value) → Heap → Prop} {YP : World → Heap → Prop} {d : DefRec} {K : Params → PySem.W.Frag} {CX : CXT} {sp : PySem.W.Frag → Sp} {x : Str}
    (hn : l.most = some n) (hn2 : n ≤ sizeLine) (hdf : d.params.defaults = []) (hr : Room k callerA)
    (hY : ∀ (w : World) (h : Heap), YP w h → (K w.params).In h)
    (F : ∀ (w : World) (mg : Str → Option Value) (fa : Addr) (h : Heap), (K w.params).In h → h.Ns mainGlobals mg → mg d.name = some (.ref fa) →
      ∃ fd : FuncData, (∀ (s : Shared) (u : Value), BindsTo s fd ⟨[u], []⟩ [(x, u)]) ∧
        ∀ base : Heap, (K w.params).In base → base.Ns mainGlobals mg → FnOk l.prog w (K w.params) mg base CX k fa fd [x] (sp (K w.params)))
    (hsp : ∀ (K : PySem.W.Frag) (H : Hp) (a : Addr) (ns : List Int), ns.length ≤ n → Only H → SqL K H a (ns.map V.int) → sp K [.ref a] H (fun v _ => v = .bl true) fun _ _ _ => False)
    (hCX : ∀ (H : Hp) (s : Shared) (e : Value) (s' : Shared), CX [] H s (fun _ _ _ => False) e s' → False) :
    PySem.W.WalkO q loose XP YP l.row.toRowW d [] (fun f vs => PySem.call f vs) :=
  walk_of (K := K) (CX := fun _ => CX) (sp := fun w => sp (K w.params)) hn hn2 hdf hr hY F (fun w H a ns h1 h2 h3 => hsp (K w.params) H a ns h1 h2 h3) fun _ H s e s' => hCX H s e s'
end L2

/- THE LAST THEOREM (shape; LID, My.* are yours):
   My.Adr: a structure of the addresses that your layer names (classes, functions); My.Txt K t: a structure (Prop) of the equations over K;
   My.txt_mk : {K} {implicit addresses ..} (e1 : nsIn K mainGlobals "law" = some (some (.ref f))) (e2 : K.lookup f = some ⟨oc, od, .func (fnOf "law" "law" params body scope dV kV doc pm an cdv ct), sl⟩) (e3 : codeIn K cdv "law" = true) .. : ∃ t, My.Txt K t

set_option maxRecDepth 100000 in
set_option maxHeartbeats 0 in
theorem PySem.Challenge.cw_LID_holds : PySem.Challenge.rw_LID.Holds := by
  w_on; o_law; k_head; (case hw => w_witness2)
  k_fill
  refine L2.walk_of (l := PySem.Challenge.rw_LID) (n := 63) (k := 40) (x := "script") (CX := fun w => ..) (sp := fun _ => My.sp_law) rfl (by decide) rfl ⟨rfl, by decide, by decide⟩ (fun w h Y => PySem.W.kIn_of Y) ?F ?S ?C
  case F =>
    intro w mg fa h KX G hmg
    have T : ∃ t, My.Txt (L2.KOf KX) t := by
      dsimp only [L2.KOf]                          -- K must stand as «<heap const> w.params» for k_is
      refine' My.txt_mk ?e1 ?e2 ?e3 ..
      (case e1 => PySem.W.k_is)                    -- in the order: a name -> its address -> its object -> its parts
      (case e2 => PySem.W.k_is)
      ..
    obtain ⟨t, T⟩ := T
    have e0 := hmg.symm.trans (PySem.W.mg_of KX G T.law)
    cases e0                                       -- fa is the law's own address
    exact ⟨_, fun s u => .of_eq rfl, fun base kb nb => My.law_fn T kb nb⟩     -- if «.of_eq rfl» comes too early: refine' ⟨_, ?b, fun base kb nb => My.law_fn T kb nb⟩; exact fun s u => .of_eq rfl
  case S => exact fun w H a ns hl hO hS => ..
  case C => exact ..
(the tactic k_is has no namespace: write k_is) -/

/-! SHORT WORDS over the layer: a def of the text, its body, what a loop and a test want. -/
namespace L2
open PySem PySem.Spec PyProof.Rows

/-! ### the text by places -/
/-- the j-th statement of a class's body -/
def inClass (s : Stmt) (j : Nat) : Stmt := match s with
  | .ClassDef _ _ _ body _ _ _ _ _ _ _ => body.getD j (.Pass ⟨0, 0, 0, 0⟩)
  | _ => .Pass ⟨0, 0, 0, 0⟩
def defArgs (s : Stmt) : Arguments := match s with
  | .FunctionDef _ a _ _ _ _ _ _ _ _ => a
  | _ => { posonlyargs := [], args := [], vararg := none, kwonlyargs := [], kw_defaults := [], kwarg := none, defaults := [] }
def defBody (s : Stmt) : List Stmt := match s with
  | .FunctionDef _ _ b _ _ _ _ _ _ _ => b
  | _ => []
def defScope (s : Stmt) : Scope := match s with
  | .FunctionDef _ _ _ _ _ _ sc _ _ _ => sc
  | _ => { kind := .function, names := [], isGenerator := false, isCoroutine := false }

/-! ### no exception leaves a def -/
abbrev CX0 : CXT := fun _ _ _ _ _ _ => False
abbrev E0 : XK := fun _ _ _ => False
theorem pass0 {X : Cx} : Passes CX0 X E0 := fun _ _ _ _ _ _ _ h => h.elim

/-! ### a def (or method) of the text as it stands behind the top -/
structure Fun (K : PySem.W.Frag) (x qual : Str) (st : Stmt) (f : Addr) (fd : FuncData) : Prop where
  ex : ∃ (oc : Value) (od : Option Addr) (kV doc pm : Value) (an : Option Addr) (cdv ct : Value) (osl : Array (Option Value)),
    fd = PySem.W.fnOf x qual (defArgs st) (defBody st) (defScope st) .none kV doc pm an cdv ct ∧ K.lookup f = some ⟨oc, od, .func fd, osl⟩ ∧ PySem.W.codeIn K cdv qual = true
  kp : PySem.W.keepIn K (.ref f) = true
section
variable {P : Program} {w : World} {K : PySem.W.Frag} {mg : Str → Option Value} {base : Heap}
/-- THE RULE for a def: its body as a term of rules, and the reading of that term -/
theorem Fun.ok {x qual : Str} {st : Stmt} {f : Addr} {fd : FuncData} {N ps : List Str} {k : Nat} {sp : Sp} (F : Fun K x qual st f fd) (S : FnScope N ps (defScope st)) (len : ∀ vs H Q E, sp vs H Q E → vs.length = ps.length)
    (hbody : ∀ (cdv : Value) (A : Around) (outer : List Env) (s : Shared) (H : Hp) (vs : List V) (Q : VK) (E : XK), Room k (A.deeper (envOfC qual (defScope st) s.heap.objs.size f cdv)) → sp vs H Q E →
      ∃ t, PSs (cxOf CX0 P w K mg base N qual (defScope st) f cdv A outer s H E).nox (defBody st) t ∧ t { nx := fun _ H' => Q .non H', rt := Q } (start N vs) H) : FnOk P w K mg base CX0 (k + 1) f fd ps sp := by
  obtain ⟨oc, od, kV, doc, pm, an, cdv, ct, osl, rfl, lk, hcd⟩ := F.ex
  refine fn_of lk hcd S len fun A outer s H vs Q E hr hsp => ?_
  obtain ⟨t, h, q⟩ := hbody cdv A outer s H vs Q E hr hsp
  exact ⟨t, h.nox, q⟩
/-- how its arguments bind (no defaults): h is «fun _ _ _ _ _ _ us hl => match us, hl with | [_, _], _ => rfl», one _ a parameter -/
theorem Fun.binds {x qual : Str} {st : Stmt} {f : Addr} {fd : FuncData} {ps : List Str} (F : Fun K x qual st f fd)
    (h : ∀ (kV doc pm : Value) (an : Option Addr) (cdv ct : Value) (us : List Value), us.length = ps.length → bindArgs (PySem.W.fnOf x qual (defArgs st) (defBody st) (defScope st) .none kV doc pm an cdv ct) ⟨us, []⟩ = pure (ps.zip us)) : Binds K fd ps [] := by
  obtain ⟨oc, od, kV, doc, pm, an, cdv, ct, osl, rfl, lk, hcd⟩ := F.ex
  exact .all (h kV doc pm an cdv ct)
theorem fun_mk {x qual : Str} {st : Stmt} {f : Addr} {oc : Value} {od an : Option Addr} {osl : Array (Option Value)} {kV doc pm cdv ct : Value} (l : K.lookup f = some ⟨oc, od, .func (PySem.W.fnOf x qual (defArgs st) (defBody st) (defScope st) .none kV doc pm an cdv ct), osl⟩)
    (c : PySem.W.codeIn K cdv qual = true) (k : PySem.W.keepIn K (.ref f) = true) : Fun K x qual st f (PySem.W.fnOf x qual (defArgs st) (defBody st) (defScope st) .none kV doc pm an cdv ct) := ⟨⟨oc, od, kV, doc, pm, an, cdv, ct, osl, rfl, l, c⟩, k⟩
end
theorem hu_of {A : Around} {k : Nat} (hr : Room k A) : A.units + 1 < cLine := Nat.lt_of_le_of_lt (Nat.add_le_add_left (by decide : 1 ≤ 64) _) hr.units
theorem small1000 {n : Nat} (h : n ≤ 1000) : n < sizeLine := Nat.lt_of_le_of_lt h (by decide)

/-! ### expressions in short: the name that stands in the i-th slot -/
section
variable {X : Cx}
theorem pv (i : Nat) {x : Str} {pos : Pos} (hN : X.N[i]? = some x := by rfl) (hv : Vis X.env.scope x := by first | exact Or.inl rfl | exact Or.inr (Or.inl rfl) | exact Or.inr (Or.inr rfl)) (hd : (x == ("__debug__" : Str)) = false := by decide)
    (hcd : (x == ("__classdict__" : Str)) = false := by decide) : PE X (.Name x pos) (tVar i) := pe_var hN hv hd hcd
end

/-! ### tests -/
theorem iteF {A B : Prop} (h : B) : if false = true then A else B := by
  rw [if_neg Bool.false_ne_true]
  exact h
theorem iteT {A B : Prop} (h : A) : if true = true then A else B := by
  rw [if_pos rfl]
  exact h
theorem ite2 {c A B : Prop} [Decidable c] (h1 : c → A) (h2 : ¬ c → B) : if c then A else B := by
  by_cases h : c
  · rw [if_pos h]
    exact h1 h
  · rw [if_neg h]
    exact h2 h
theorem iteNS {c A B : Prop} [Decidable c] (hc : c) (h : B) : if (!decide c) = true then A else B := by
  rw [decide_eq_true hc]
  exact iteF h

/-! ### heaps -/
/-- all that was tracked is as it was -/
def Same (H H' : Hp) : Prop := ∀ b o, H b = some o → H' b = some o
theorem Same.refl (H : Hp) : Same H H := fun _ _ h => h
theorem Same.trans {H H1 H2 : Hp} (a : Same H H1) (b : Same H1 H2) : Same H H2 := fun c o h => b c o (a c o h)
theorem Same.free {H H' : Hp} (e : Same H H') {l : Addr} (h : H' l = Option.none) : H l = Option.none := by
  cases q : H l with
  | none => rfl
  | some o =>
    rw [e l o q] at h
    cases h
theorem Same.seq {K : PySem.W.Frag} {H H' : Hp} {a : Addr} {xs : List V} (e : Same H H') (h : SqL K H a xs) : SqL K H' a xs := by
  rcases h with (h | ⟨o, h⟩) | h
  · exact .inl (.inl (e _ _ h))
  · exact .inl (.inr ⟨o, e _ _ h⟩)
  · exact .inr h

end L2
namespace L2
open PySem PySem.Spec PyProof.Rows

/-! ### lists of pairs as tables -/
section
variable {κ : Type} [DecidableEq κ]
def valV (kvs : List (κ × V)) (k : κ) : Option V := (kvs.find? fun kv => decide (kv.1 = k)).map (·.2)
/-- in its place, or at the end -/
def putK (kvs : List (κ × V)) (k : κ) (v : V) : List (κ × V) :=
  if (kvs.any fun kv => decide (kv.1 = k)) = true then kvs.map (fun kv => if kv.1 = k then (kv.1, v) else kv) else kvs ++ [(k, v)]
def dropK (kvs : List (κ × V)) (k : κ) : List (κ × V) := kvs.filter fun kv => decide (kv.1 ≠ k)

theorem valV_nil {k : κ} : valV ([] : List (κ × V)) k = none := rfl
theorem valV_pos {p : κ × V} {r : List (κ × V)} {k : κ} (e : p.1 = k) : valV (p :: r) k = some p.2 := by simp [valV, List.find?_cons, e]
theorem valV_neg {p : κ × V} {r : List (κ × V)} {k : κ} (e : ¬ p.1 = k) : valV (p :: r) k = valV r k := by simp [valV, List.find?_cons, e]
theorem valV_any (k : κ) : ∀ kvs : List (κ × V), (kvs.any fun kv => decide (kv.1 = k)) = (valV kvs k).isSome
  | [] => rfl
  | p :: r => by
    rw [List.any_cons]
    by_cases e : p.1 = k
    · simp only [valV_pos e, decide_eq_true e, Bool.true_or, Option.isSome_some]
    · rw [valV_neg e, decide_eq_false e, Bool.false_or]; exact valV_any k r
theorem valV_map (k j : κ) (y : V) : ∀ kvs : List (κ × V), valV (kvs.map fun kv => if kv.1 = k then (kv.1, y) else kv) j = (valV kvs j).map fun x => if j = k then y else x
  | [] => rfl
  | p :: r => by
    have ih := valV_map k j y r
    rw [List.map_cons]
    by_cases h : p.1 = k
    · rw [if_pos h]
      by_cases e : p.1 = j
      · rw [valV_pos (p := (p.1, y)) e, valV_pos e, Option.map_some, if_pos (e.symm.trans h)]
      · rw [valV_neg (p := (p.1, y)) e, valV_neg e, ih]
    · rw [if_neg h]
      by_cases e : p.1 = j
      · rw [valV_pos (p := p) e, valV_pos e, Option.map_some, if_neg (fun z => h (e.trans z))]
      · rw [valV_neg (p := p) e, valV_neg e, ih]
theorem valV_snoc (k j : κ) (y : V) : ∀ kvs : List (κ × V), valV kvs k = none → valV (kvs ++ [(k, y)]) j = if j = k then some y else valV kvs j
  | [], _ => by
    by_cases e : k = j
    · rw [if_pos e.symm]; exact valV_pos (p := (k, y)) e
    · rw [if_neg (fun z => e z.symm)]; exact valV_neg (p := (k, y)) e
  | p :: r, hn => by
    rw [List.cons_append]
    have hk : ¬ p.1 = k := fun z => by rw [valV_pos z] at hn; cases hn
    rw [valV_neg hk] at hn
    have ih := valV_snoc k j y r hn
    by_cases e : p.1 = j
    · rw [valV_pos e, valV_pos e, if_neg (fun z => hk (e.trans z))]
    · rw [valV_neg e, valV_neg e, ih]
theorem valV_put (kvs : List (κ × V)) (k j : κ) (y : V) : valV (putK kvs k y) j = if j = k then some y else valV kvs j := by
  unfold putK
  by_cases a : (kvs.any fun kv => decide (kv.1 = k)) = true
  · rw [if_pos a, valV_map]
    rw [valV_any] at a
    by_cases e : j = k
    · obtain ⟨x, hx⟩ := Option.isSome_iff_exists.mp a
      rw [if_pos e, e, hx, Option.map_some, if_pos rfl]
    · rw [if_neg e]
      cases valV kvs j with
      | none => rfl
      | some x => rw [Option.map_some, if_neg e]
  · rw [if_neg a]
    refine valV_snoc k j y kvs ?_
    rw [valV_any] at a
    cases q : valV kvs k with
    | none => rfl
    | some x => rw [q] at a; exact (a rfl).elim
theorem length_putK (kvs : List (κ × V)) (k : κ) (v : V) : (putK kvs k v).length ≤ kvs.length + 1 := by
  unfold putK
  split
  · rw [List.length_map]; omega
  · rw [List.length_append, List.length_cons, List.length_nil]; omega
theorem putK_new {kvs : List (κ × V)} {k : κ} (v : V) (h : valV kvs k = none) : putK kvs k v = kvs ++ [(k, v)] := by
  unfold putK
  rw [valV_any, h]
  exact if_neg (by decide)

theorem RelO.isSome_eq {o : Option V} {u : Option Value} (r : RelO o u) : o.isSome = u.isSome := by
  cases o with
  | none => cases u with
    | none => rfl
    | some _ => exact (show False from r).elim
  | some _ => cases u with
    | none => exact (show False from r).elim
    | some _ => rfl
theorem RelO.getD {o : Option V} {u : Option Value} {d : V} {d' : Value} (r : RelO o u) (rd : RelV d d') : RelV (o.getD d) (u.getD d') := by
  cases o with
  | none => cases u with
    | none => exact rd
    | some _ => exact (show False from r).elim
  | some _ => cases u with
    | none => exact (show False from r).elim
    | some _ => exact r

/-- raw tables of the same keys -/
theorem KV.val {kvs : List (κ × V)} {vs : List (κ × Value)} (r : KV kvs vs) (k : κ) : RelO (valV kvs k) (valueAt vs k) := by
  unfold KV at r
  induction r with
  | nil => exact True.intro
  | @cons p q ps qs h t ih =>
    obtain ⟨h1, h2⟩ := h
    by_cases e : p.1 = k
    · have e' : q.1 = k := h1.symm.trans e
      have b : valueAt (q :: qs) k = some q.2 := by simp [valueAt, List.find?_cons, e']
      rw [valV_pos e, b]; exact h2
    · have e' : ¬ q.1 = k := fun z => e (h1.trans z)
      have b : valueAt (q :: qs) k = valueAt qs k := by simp [valueAt, List.find?_cons, e']
      rw [valV_neg e, b]; exact ih
theorem KV.any {kvs : List (κ × V)} {vs : List (κ × Value)} (r : KV kvs vs) (k : κ) : (kvs.any fun kv => decide (kv.1 = k)) = vs.any fun kv => decide (kv.1 = k) := by
  unfold KV at r
  induction r with
  | nil => rfl
  | cons h t ih => rw [List.any_cons, List.any_cons, ih, h.1]
theorem KV.repl {kvs : List (κ × V)} {vs : List (κ × Value)} (r : KV kvs vs) (k : κ) {y : V} {u : Value} (ry : RelV y u) :
    KV (kvs.map fun kv => if kv.1 = k then (kv.1, y) else kv) (vs.map fun kv => if kv.1 = k then (kv.1, u) else kv) := by
  unfold KV at r ⊢
  induction r with
  | nil => exact .nil
  | @cons p q ps qs h t ih =>
    rw [List.map_cons, List.map_cons]
    refine .cons ?_ ih
    obtain ⟨h1, h2⟩ := h
    by_cases e : p.1 = k
    · rw [if_pos e, if_pos (h1.symm.trans e)]; exact ⟨h1, ry⟩
    · rw [if_neg e, if_neg (fun z => e (h1.trans z))]; exact ⟨h1, h2⟩
theorem KV.put {kvs : List (κ × V)} {vs : List (κ × Value)} (r : KV kvs vs) (k : κ) {y : V} {u : Value} (ry : RelV y u) : KV (putK kvs k y) (stored vs k u) := by
  unfold putK stored
  rw [r.any k]
  by_cases e : (vs.any fun kv => decide (kv.1 = k)) = true
  · rw [if_pos e, if_pos e]; exact r.repl k ry
  · rw [if_neg e, if_neg e]; exact Paired.snoc r ⟨rfl, ry⟩
theorem KV.drop {kvs : List (κ × V)} {vs : List (κ × Value)} (r : KV kvs vs) (k : κ) : KV (dropK kvs k) (without vs k) := by
  unfold KV at r ⊢
  unfold dropK without
  induction r with
  | nil => exact .nil
  | @cons p q ps qs h t ih =>
    obtain ⟨h1, h2⟩ := h
    rw [List.filter_cons, List.filter_cons]
    by_cases e : p.1 = k
    · have a : ¬ decide (p.1 ≠ k) = true := by simp [e]
      have b : ¬ decide (q.1 ≠ k) = true := by simp [h1.symm.trans e]
      rw [if_neg a, if_neg b]; exact ih
    · have e' : ¬ q.1 = k := fun z => e (h1.trans z)
      have a : decide (p.1 ≠ k) = true := by simp [e]
      have b : decide (q.1 ≠ k) = true := by simp [e']
      rw [if_pos a, if_pos b]; exact .cons ⟨h1, h2⟩ ih
theorem KV.keys {kvs : List (κ × V)} {vs : List (κ × Value)} (r : KV kvs vs) : kvs.map (·.1) = vs.map (·.1) := by
  unfold KV at r
  induction r with
  | nil => rfl
  | cons h t ih => rw [List.map_cons, List.map_cons, ih, h.1]
theorem KV.length {kvs : List (κ × V)} {vs : List (κ × Value)} (r : KV kvs vs) : kvs.length = vs.length := Paired.length r
theorem dropK_le (kvs : List (κ × V)) (k : κ) : (dropK kvs k).length ≤ kvs.length := List.length_filter_le _ _
end


/-! ### a tracked dict, its keys ints and texts or tuples of these -/
theorem kV_is {P : Program} {w : World} {k : Key} {u : Value} (r : RelV (kV k) u) : (mixKind P w).is k u = true := by
  cases k with
  | inl i => obtain ⟨t, e⟩ := (show ∃ t, u = Value.int i t from r); subst e; exact mixKind_int P w i t
  | inr x => obtain ⟨t, e⟩ := (show ∃ t, u = Value.str x t from r); subst e; exact mixKind_str P w x t
theorem kV_inj {a b : Key} (e : kV a = kV b) : a = b := by
  cases a with
  | inl i => cases b with
    | inl j => have e' : V.int i = V.int j := e; injection e' with e'; rw [e']
    | inr y => exact nomatch (show V.int i = V.str y from e)
  | inr x => cases b with
    | inl j => exact nomatch (show V.str x = V.int j from e)
    | inr y => have e' : V.str x = V.str y := e; injection e' with e'; rw [e']
theorem kVs_inj : ∀ {a b : List Key}, a.map kV = b.map kV → a = b
  | [], [], _ => rfl
  | [], _ :: _, e => by simp at e
  | _ :: _, [], e => by simp at e
  | x :: xs, y :: ys, e => by
    rw [List.map_cons, List.map_cons] at e
    injection e with e1 e2
    rw [kV_inj e1, kVs_inj e2]
theorem items_are {P : Program} {w : World} : ∀ {ks : List Key} {us : List Value}, Vals (ks.map kV) us → ItemsAre (mixKind P w) ks us
  | [], _, r => by rw [List.map_nil] at r; cases r; exact .nil
  | k :: ks, _, r => by
    rw [List.map_cons] at r
    cases r with
    | cons h t => exact .cons (kV_is h) (items_are t)

/-- raw entries of a dict with tuple keys -/
abbrev KT (H : Hp) : List (List Key × V) → List (List Key × Addr × Value) → Prop := Paired fun p q => p.1 = q.1 ∧ H q.2.1 = some (.tup (p.1.map kV)) ∧ RelV p.2 q.2.2
theorem KT.val {H : Hp} {kvs : List (List Key × V)} {xs : List (List Key × Addr × Value)} (r : KT H kvs xs) (k : List Key) : RelO (valV kvs k) ((atKey xs k).map (·.2)) := by
  induction r with
  | nil => exact True.intro
  | @cons p q ps qs h t ih =>
    obtain ⟨h1, _, h2⟩ := h
    by_cases e : p.1 = k
    · have e' : q.1 = k := h1.symm.trans e
      have b : atKey (q :: qs) k = some q.2 := by simp [atKey, List.find?_cons, e']
      rw [valV_pos e, b]; exact h2
    · have e' : ¬ q.1 = k := fun z => e (h1.trans z)
      have b : atKey (q :: qs) k = atKey qs k := by simp [atKey, List.find?_cons, e']
      rw [valV_neg e, b]; exact ih
theorem KT.repl {H : Hp} {kvs : List (List Key × V)} {xs : List (List Key × Addr × Value)} (r : KT H kvs xs) (k : List Key) {y : V} {u : Value} (ry : RelV y u) :
    KT H (kvs.map fun kv => if kv.1 = k then (kv.1, y) else kv) (xs.map (putAt k u)) := by
  induction r with
  | nil => exact .nil
  | @cons p q ps qs h t ih =>
    rw [List.map_cons, List.map_cons]
    refine .cons ?_ ih
    obtain ⟨h1, h2, h3⟩ := h
    unfold putAt
    by_cases e : p.1 = k
    · rw [if_pos e, if_pos (h1.symm.trans e)]; exact ⟨h1, h2, ry⟩
    · rw [if_neg e, if_neg (fun z => e (h1.trans z))]; exact ⟨h1, h2, h3⟩
theorem KT.put {H : Hp} {kvs : List (List Key × V)} {xs : List (List Key × Addr × Value)} (r : KT H kvs xs) (k : List Key) {b : Addr} {y : V} {u : Value} (hb : H b = some (.tup (k.map kV))) (ry : RelV y u) :
    KT H (putK kvs k y) (storedH xs k b u) := by
  have e : (kvs.any fun kv => decide (kv.1 = k)) = (atKey xs k).isSome := by
    rw [valV_any, (r.val k).isSome_eq, Option.isSome_map]
  unfold putK storedH
  rw [e]
  by_cases q : (atKey xs k).isSome = true
  · rw [if_pos q, if_pos q]; exact r.repl k ry
  · rw [if_neg q, if_neg q]; exact Paired.snoc r ⟨rfl, hb, ry⟩
theorem KT.keeps {H H' : Hp} {kvs : List (List Key × V)} {xs : List (List Key × Addr × Value)} (r : KT H kvs xs) (ht : ∀ b ys, H b = some (.tup ys) → H' b = some (.tup ys)) : KT H' kvs xs :=
  Paired.mapP r fun _ _ z => ⟨z.1, ht _ _ z.2.1, z.2.2⟩

section
variable {P : Program} {w : World} {H : Hp} {h : Heap} {a : Addr}
theorem rd_of {u : HO} (ok : HOk P w H h) (e : Rd H a u) : ObjOk P w H h a u := e.ok ok
theorem dk_rd {kvs : List (Key × V)} (ok : HOk P w H h) (e : Rd H a (.dK kvs)) : kvs.length ≤ sizeLine ∧ (a == sysModules) = false ∧ ∃ vs, KV kvs vs ∧ h.DictOf (mixKind P w) a vs :=
  show ObjOk P w H h a (.dK kvs) from rd_of ok e
theorem dk_of {kvs : List (Key × V)} (ok : HOk P w H h) (e : H a = some (.dK kvs)) : kvs.length ≤ sizeLine ∧ (a == sysModules) = false ∧ ∃ vs, KV kvs vs ∧ h.DictOf (mixKind P w) a vs := dk_rd ok (.inl e)
/-- a tracked tuple of ints and texts is a key -/
theorem key_of {ks : List Key} (ok : HOk P w H h) (e : H a = some (.tup (ks.map kV))) : (tupleKind (mixKind P w)).is h ks a := by
  obtain ⟨_, its, r, o, h1, h2, n, h3⟩ := (show ObjOk P w H h a (.tup (ks.map kV)) from ok a _ e)
  exact ⟨o, its.toArray, n, h1, h2, h3, by simpa using items_are r⟩
theorem dt_rd {kvs : List (List Key × V)} (ok : HOk P w H h) (e : Rd H a (.dT kvs)) : kvs.length ≤ sizeLine ∧ (a == sysModules) = false ∧
    ∃ xs, KT H kvs xs ∧ h.DictOfH (tupleKind (mixKind P w)) a xs := by
  obtain ⟨z, y, xs, r, o, es, ep, h1, h2, h3, h4, h5⟩ := (show ObjOk P w H h a (.dT kvs) from rd_of ok e)
  refine ⟨z, y, xs, r, o, es, ep, h1, h2, h3, h4, fun x hx => ?_, h5⟩
  have all : ∀ {l : List (List Key × V)} {m : List (List Key × Addr × Value)}, KT H l m → ∀ x ∈ m, (tupleKind (mixKind P w)).is h x.1 x.2.1 := by
    intro l m q
    induction q with
    | nil => intro x hx; exact nomatch hx
    | @cons p q ps qs hq t ih =>
      intro x hx
      rcases List.mem_cons.mp hx with e | hx
      · subst e
        exact key_of ok (by rw [← hq.1]; exact hq.2.1)
      · exact ih x hx
  exact all r x hx
theorem dt_of {kvs : List (List Key × V)} (ok : HOk P w H h) (e : H a = some (.dT kvs)) : kvs.length ≤ sizeLine ∧ (a == sysModules) = false ∧
    ∃ xs, KT H kvs xs ∧ h.DictOfH (tupleKind (mixKind P w)) a xs := dt_rd ok (.inl e)
end

/-- what the dict at a holds at the key y -/
def DGet (H : Hp) (a : Addr) (y : V) (r : Option V) : Prop :=
  (∃ kvs k, Rd H a (.dK kvs) ∧ y = kV k ∧ r = valV kvs k) ∨ ∃ kvs k b, Rd H a (.dT kvs) ∧ y = .ref b ∧ H b = some (.tup (k.map kV)) ∧ r = valV kvs k
/-- the heap behind a[y] = v -/
def DPut (H : Hp) (a : Addr) (y v : V) (H' : Hp) : Prop :=
  (∃ kvs k, H a = some (.dK kvs) ∧ y = kV k ∧ kvs.length < sizeLine ∧ H' = upd H a (.dK (putK kvs k v))) ∨
  ∃ kvs k b, H a = some (.dT kvs) ∧ y = .ref b ∧ H b = some (.tup (k.map kV)) ∧ kvs.length < sizeLine ∧ H' = upd H a (.dT (putK kvs k v))
theorem DGet.k {H : Hp} {a : Addr} {kvs : List (Key × V)} {k : Key} (e : H a = some (.dK kvs)) : DGet H a (kV k) (valV kvs k) := .inl ⟨kvs, k, .inl e, rfl, rfl⟩
theorem DGet.t {H : Hp} {a b : Addr} {kvs : List (List Key × V)} {k : List Key} (e : H a = some (.dT kvs)) (eb : H b = some (.tup (k.map kV))) : DGet H a (.ref b) (valV kvs k) := .inr ⟨kvs, k, b, .inl e, rfl, eb, rfl⟩
theorem DPut.k {H : Hp} {a : Addr} {kvs : List (Key × V)} {k : Key} {v : V} (e : H a = some (.dK kvs)) (hl : kvs.length < sizeLine) : DPut H a (kV k) v (upd H a (.dK (putK kvs k v))) := .inl ⟨kvs, k, e, rfl, hl, rfl⟩
theorem DPut.t {H : Hp} {a b : Addr} {kvs : List (List Key × V)} {k : List Key} {v : V} (e : H a = some (.dT kvs)) (eb : H b = some (.tup (k.map kV))) (hl : kvs.length < sizeLine) :
    DPut H a (.ref b) v (upd H a (.dT (putK kvs k v))) := .inr ⟨kvs, k, b, e, rfl, eb, hl, rfl⟩


section
variable {X : Cx} {pins : List (Addr × Obj)} {σ : St} {H : Hp} {s : Shared} {a : Addr} {y v : V} {u r : Value} {o : Option V} {A : Around} {E : Value → Shared → Prop}

theorem Inv.big (I : Inv X pins σ H s) : sysModules < s.heap.objs.size := by
  have h : mainGlobals < s.heap.objs.size := (I.mod.glob.keeps I.bk).lt
  exact Nat.lt_trans (by decide) h

/-- d[y], there -/
theorem d_getItem {Q : Value → Shared → Prop} (hu : A.units + 1 < cLine) (I : Inv X pins σ H s) (g : DGet H a y (some v)) (ry : RelV y u) (h : ∀ w' s', Inv X pins σ H s' → RelV v w' → Q w' s') :
    wpAny (model X.prog X.w) A (getItem (.ref a) u) Q E s := by
  rcases g with ⟨kvs, k, e, ey, l⟩ | ⟨kvs, k, b, e, ey, eb, l⟩
  · subst ey
    obtain ⟨z, hd, vs, rel, dd⟩ := dk_rd I.hok e
    obtain ⟨w', hw, rw'⟩ := RelO.some_of (v := v) (o := valueAt vs k) (by rw [l]; exact rel.val k)
    exact wpAny_getItem_of (kV_is ry) dd.mapOf hw (h w' _ (I.tok _) rw')
  · subst ey
    cases (show u = Value.ref b from ry)
    obtain ⟨z, hd, xs, rel, dd⟩ := dt_rd I.hok e
    obtain ⟨w', hw, rw'⟩ := RelO.some_of (v := v) (o := (atKey xs k).map (·.2)) (by rw [l]; exact rel.val k)
    obtain ⟨p, hp, hp2⟩ := Option.map_eq_some_iff.mp hw
    refine wpAny_getItem_heap (tupleKind_room_in1 hu) (key_of I.hok eb) dd hp ?_
    rw [hp2]
    exact h w' _ (I.tok _) rw'
/-- y in d -/
theorem d_in {Q : Value → Shared → Prop} (hu : A.units + 1 < cLine) (I : Inv X pins σ H s) (g : DGet H a y o) (ry : RelV y u) (h : ∀ s', Inv X pins σ H s' → Q (.bool o.isSome) s') :
    wpAny (model X.prog X.w) A (compareOp .In u (.ref a)) Q E s := by
  rcases g with ⟨kvs, k, e, ey, l⟩ | ⟨kvs, k, b, e, ey, eb, l⟩
  · subst ey
    obtain ⟨z, hd, vs, rel, dd⟩ := dk_rd I.hok e
    refine wpAny_in_of (kV_is ry) hd dd.mapOf ?_
    rw [← (rel.val k).isSome_eq, ← l]
    exact h _ (I.tok _)
  · subst ey
    cases (show u = Value.ref b from ry)
    obtain ⟨z, hd, xs, rel, dd⟩ := dt_rd I.hok e
    refine wpAny_in_heap (tupleKind_room_in1 hu) (key_of I.hok eb) hd dd ?_
    have q := (rel.val k).isSome_eq
    rw [Option.isSome_map] at q
    rw [← q, ← l]
    exact h _ (I.tok _)
theorem d_notIn {Q : Value → Shared → Prop} (hu : A.units + 1 < cLine) (I : Inv X pins σ H s) (g : DGet H a y o) (ry : RelV y u) (h : ∀ s', Inv X pins σ H s' → Q (.bool (!o.isSome)) s') :
    wpAny (model X.prog X.w) A (compareOp .NotIn u (.ref a)) Q E s := by
  rcases g with ⟨kvs, k, e, ey, l⟩ | ⟨kvs, k, b, e, ey, eb, l⟩
  · subst ey
    obtain ⟨z, hd, vs, rel, dd⟩ := dk_rd I.hok e
    refine wpAny_notIn_of (kV_is ry) hd dd.mapOf ?_
    rw [← (rel.val k).isSome_eq, ← l]
    exact h _ (I.tok _)
  · subst ey
    cases (show u = Value.ref b from ry)
    obtain ⟨z, hd, xs, rel, dd⟩ := dt_rd I.hok e
    refine wpAny_notIn_heap (tupleKind_room_in1 hu) (key_of I.hok eb) hd dd ?_
    have q := (rel.val k).isSome_eq
    rw [Option.isSome_map] at q
    rw [← q, ← l]
    exact h _ (I.tok _)
/-- a dict's object is replaced -/
theorem d_write {h' : Heap} {t' : Nat} {ob : HO} (I : Inv X pins σ H s) (mu : Mut (H a)) (hs : Heap.SameBut a s.heap h') (he : ∃ q, h'.get? a = some q) (new : ObjOk X.prog X.w (upd H a ob) h' a ob) :
    Inv X pins σ (upd H a ob) { s with heap := h', toks := t' } :=
  I.write (x := a) (e := a) mu (.inl rfl) (fun b q hb z => (hs.2 b hb).trans z) he new
theorem dk_new {P : Program} {w : World} {H' : Hp} {h' : Heap} {kvs : List (Key × V)} {vs : List (Key × Value)} (z : kvs.length ≤ sizeLine) (hd : (a == sysModules) = false) (rel : KV kvs vs) (dd : h'.DictOf (mixKind P w) a vs) :
    ObjOk P w H' h' a (.dK kvs) := ⟨z, hd, vs, rel, dd⟩
/-- d[y] = v -/
theorem d_setItem {H' : Hp} {Q : Unit → Shared → Prop} (hu : A.units + 1 < cLine) (I : Inv X pins σ H s) (g : DPut H a y v H') (ry : RelV y u) (rv : RelV v r) (h : ∀ s', Inv X pins σ H' s' → Q () s') :
    wpAny (model X.prog X.w) A (setItem (.ref a) u r) Q E s := by
  rcases g with ⟨kvs, k, e, ey, l, eH⟩ | ⟨kvs, k, b, e, ey, eb, l, eH⟩
  · subst ey eH
    obtain ⟨z, hd, vs, rel, dd⟩ := dk_of I.hok e
    have hz : vs.length ≤ sizeLine := by rw [← rel.length]; exact z
    have hl : (putK kvs k v).length ≤ sizeLine := by have := length_putK kvs k v; omega
    refine wpAny_setItem_pairs (hsz := hz) (kV_is ry) dd fun h' dd' hs => h _ ?_
    have he : ∃ q, h'.get? a = some q := let ⟨q, _, _, hq, _⟩ := dd'; ⟨q, hq⟩
    exact d_write I (by rw [e]; exact True.intro) hs he (dk_new hl hd (rel.put k rv) dd')
  · subst ey eH
    cases (show u = Value.ref b from ry)
    obtain ⟨z, hd, xs, rel, dd⟩ := dt_of I.hok e
    have hz : xs.length ≤ sizeLine := by rw [← Paired.length rel]; exact z
    have hl : (putK kvs k v).length ≤ sizeLine := by have := length_putK kvs k v; omega
    refine wpAny_setItem_heap (hsz := hz) (tupleKind_room_in1 hu) (key_of I.hok eb) dd fun h' dd' hs => h _ ?_
    obtain ⟨q, es, ep, hq, h2, h3, h4, _, h5⟩ := dd'
    refine d_write I (by rw [e]; exact True.intro) hs ⟨q, hq⟩ ⟨hl, hd, _, (rel.put k eb rv).keeps fun c ys ec => ?_, q, es, ep, hq, h2, h3, h4, h5⟩
    rw [upd_ne (ne_of ec e (fun z => nomatch z))]
    exact ec
end

section
variable {X : Cx} {pins : List (Addr × Obj)} {σ : St} {H : Hp} {s : Shared} {a : Addr} {kvs : List (Key × V)} {k : Key} {u : Value} {A : Around} {E : Value → Shared → Prop}
/-- del d[k] -/
theorem d_delItem {Q : Unit → Shared → Prop} (I : Inv X pins σ H s) (e : H a = some (.dK kvs)) (ry : RelV (kV k) u) (l : (valV kvs k).isSome = true) (h : ∀ s', Inv X pins σ (upd H a (.dK (dropK kvs k))) s' → Q () s') :
    wpAny (model X.prog X.w) A (delItem (.ref a) u) Q E s := by
  obtain ⟨z, hd, vs, rel, dd⟩ := dk_of I.hok e
  refine wpAny_delItem_slot dd.typeIs (by decide) PySem.F.slot_dict_delitem
    (call_meetsIn PySem.F.slot_dict_delitem dd.typeIs PySem.F.entry_dict_delitem (PySem.F.args_dict_delitem_2 _ _) (meets_dict_delitem_pairs (mixKind X.prog X.w) a (kV_is ry)) ⟨vs, dd, by rw [← rel.length]; exact z, by rw [← (rel.val k).isSome_eq]; exact l, fun h' dd' hs => h _ ?_⟩)
  have he : ∃ q, h'.get? a = some q := let ⟨q, _, _, hq, _⟩ := dd'; ⟨q, hq⟩
  exact d_write I (by rw [e]; exact True.intro) hs he (dk_new (Nat.le_trans (dropK_le kvs k) z) hd (rel.drop k) dd')
/-- d.pop(k[, x]), there -/
theorem d_pop {v : V} {more : List Value} {Q : Value → Shared → Prop} (I : Inv X pins σ H s) (e : H a = some (.dK kvs)) (ry : RelV (kV k) u) (l : valV kvs k = some v) (hm : more = [] ∨ ∃ x, more = [x])
    (h : ∀ w' s', Inv X pins σ (upd H a (.dK (dropK kvs k))) s' → RelV v w' → Q w' s') : wpAny (model X.prog X.w) A (call (.builtin "dict.pop") (.ref a :: u :: more)) Q E s := by
  obtain ⟨z, hd, vs, rel, dd⟩ := dk_of I.hok e
  obtain ⟨w', hw, rw'⟩ := RelO.some_of (v := v) (o := valueAt vs k) (by rw [← l]; exact rel.val k)
  have hp : (keyPart u).isSome = true := by
    cases k with
    | inl i => obtain ⟨t, q⟩ := (show ∃ t, u = Value.int i t from ry); subst q; rfl
    | inr x => obtain ⟨t, q⟩ := (show ∃ t, u = Value.str x t from ry); subst q; rfl
  have ha : argsOk "dict.pop" ⟨.ref a :: u :: more, []⟩ := by
    rcases hm with q | ⟨x, q⟩
    · subst q; exact PySem.F.args_dict_pop_2 _ _
    · subst q; exact PySem.F.args_dict_pop_3 _ _ _
  refine call_meetsIn PySem.F.slot_dict_pop dd.typeIs PySem.F.entry_dict_pop ha (meets_dict_pop_there (mixKind X.prog X.w) a (kV_is ry) more hm hp)
    ⟨vs, w', dd, by rw [← rel.length]; exact z, hw, fun h' dd' hs => h w' _ ?_ rw'⟩
  have he : ∃ q, h'.get? a = some q := let ⟨q, _, _, hq, _⟩ := dd'; ⟨q, hq⟩
  exact d_write I (by rw [e]; exact True.intro) hs he (dk_new (Nat.le_trans (dropK_le kvs k) z) hd (rel.drop k) dd')
/-- d.pop(k, x), not there -/
theorem d_popD {r : Value} {Q : Value → Shared → Prop} (I : Inv X pins σ H s) (e : H a = some (.dK kvs)) (ry : RelV (kV k) u) (l : valV kvs k = none) (h : ∀ s', Inv X pins σ H s' → Q r s') :
    wpAny (model X.prog X.w) A (call (.builtin "dict.pop") [.ref a, u, r]) Q E s := by
  obtain ⟨z, hd, vs, rel, dd⟩ := dk_of I.hok e
  have hn : valueAt vs k = none := RelO.none_of (by rw [← l]; exact rel.val k)
  have hp : (keyPart u).isSome = true := by
    cases k with
    | inl i => obtain ⟨t, q⟩ := (show ∃ t, u = Value.int i t from ry); subst q; rfl
    | inr x => obtain ⟨t, q⟩ := (show ∃ t, u = Value.str x t from ry); subst q; rfl
  exact call_meetsIn PySem.F.slot_dict_pop dd.typeIs PySem.F.entry_dict_pop (PySem.F.args_dict_pop_3 _ _ _) (meets_dict_pop_default (mixKind X.prog X.w) a (kV_is ry) hd hp r) ⟨vs, dd, hn, h _ (I.tok _)⟩
/-- d.clear() -/
theorem d_clear {Q : Value → Shared → Prop} (I : Inv X pins σ H s) (e : H a = some (.dK kvs)) (h : ∀ s', Inv X pins σ (upd H a (.dK [])) s' → Q .none s') : wpAny (model X.prog X.w) A (call (.builtin "dict.clear") [.ref a]) Q E s := by
  obtain ⟨z, hd, vs, rel, dd⟩ := dk_of I.hok e
  refine call_meetsIn PySem.F.slot_dict_clear dd.typeIs PySem.F.entry_dict_clear (PySem.F.args_dict_clear_1 _) (meets_dict_clear (mixKind X.prog X.w) a) ⟨vs, dd, by rw [← rel.length]; exact z, fun h' dd' hs => h _ ?_⟩
  have he : ∃ q, h'.get? a = some q := let ⟨q, _, _, hq, _⟩ := dd'; ⟨q, hq⟩
  exact d_write (t' := s.toks) I (by rw [e]; exact True.intro) hs he (dk_new (Nat.zero_le _) hd .nil dd')
/-- len(d) -/
theorem d_len {Q : Value → Shared → Prop} (I : Inv X pins σ H s) (e : Rd H a (.dK kvs)) (h : ∀ t s', Inv X pins σ H s' → Q (.int kvs.length t) s') : wpAny (model X.prog X.w) A (call (.builtin "len") [.ref a]) Q E s := by
  obtain ⟨z, hd, vs, rel, dd⟩ := dk_rd I.hok e
  refine call_len_dict hd dd (by rw [← rel.length]; rw [sizeLine_eq] at z; omega) ?_
  rw [← rel.length]
  exact h _ _ (I.tok _)
/-- if d -/
theorem d_truth {Q : Bool → Shared → Prop} (I : Inv X pins σ H s) (e : Rd H a (.dK kvs)) (h : ∀ s', Inv X pins σ H s' → Q (!kvs.isEmpty) s') : wpAny (model X.prog X.w) A (truthy (.ref a)) Q E s := by
  obtain ⟨z, hd, vs, rel, dd⟩ := dk_rd I.hok e
  refine wpAny_truthy_dict hd dd (by rw [← rel.length]; rw [sizeLine_eq] at z; omega) ?_
  have q : kvs.isEmpty = vs.isEmpty := by cases rel <;> rfl
  rw [← q]
  exact h _ (I.tok _)
end


/-! ### readings and rules -/
/-- the element of a subscription, not a slice -/
def NoSl (i : Expr) : Prop := ∀ ov iv, subscripted i false ov iv = operate [ov, iv] (getItem ov iv)
theorem subD_of {prog : Program} {w : World} {A : Around} {E : Value → Shared → Prop} {s : Shared} {env : Env} {value slice : Expr} {pos : Pos} {T id : String} {Q : Value → Shared → Prop}
    (hl : typeLookup (.type T) "__getitem__" = pure (some (.builtin id))) (hs : NoSl slice)
    (h : wpAny (model prog w) A (eval value env) (fun o s₁ => wpAny (model prog w) A (eval slice env) (fun i s₂ => s₂.TypeIs o T ∧ wpAny (model prog w) A (getItem o i) Q E s₂) E s₁) E s) :
    wpAny (model prog w) A (eval (.Subscript value slice pos) env) Q E s := by
  refine Subscript_ (wpAny_mono h (fun o s₁ h₁ => wpAny_mono h₁ (fun i s₂ h₂ => ?_) fun _ _ x => x) fun _ _ x => x)
  obtain ⟨hT, h₂⟩ := h₂
  unfold subscriptTail
  refine wpAny_bind ?_
  rw [getitemInPython_of_ne hT.not_modules]
  refine wpAny_bind (wpAny_specialOf hT hl ?_)
  have fin : wpAny (model prog w) A (subscripted slice false o i) (fun r s₃ => wpAny (model prog w) A (letTemporaryGo value o r >>= fun _ => pure r) Q E s₃) E s₂ := by
    rw [hs o i]
    exact wpAny_operating (wpAny_mono h₂ (fun r s₃ h₃ => wpAny_bind (wpAny_letTemporaryGo (wpAny_pure h₃))) fun _ _ x => x)
  first
    | exact wpAny_pure (wpAny_bind fin)
    | exact wpAny_bind (wpAny_pure (wpAny_bind fin))
    | exact wpAny_bind fin

theorem dict_typeIs {X : Cx} {pins : List (Addr × Obj)} {σ : St} {H : Hp} {s : Shared} {a : Addr} {y : V} {o : Option V} (I : Inv X pins σ H s) (g : DGet H a y o) : s.TypeIs (.ref a) "dict" := by
  rcases g with ⟨kvs, k, e, _, _⟩ | ⟨kvs, k, b, e, _, _, _⟩
  · obtain ⟨_, _, vs, _, dd⟩ := dk_rd I.hok e
    exact dd.typeIs
  · obtain ⟨_, _, xs, _, dd⟩ := dt_rd I.hok e
    exact dd.typeIs
theorem dict_noDict {X : Cx} {pins : List (Addr × Obj)} {σ : St} {H : Hp} {s : Shared} {a : Addr} {y : V} {o : Option V} (I : Inv X pins σ H s) (g : DGet H a y o) :
    ∀ b, Value.ref a = .ref b → ∃ ob, s.heap.get? b = some ob ∧ ob.dict = none := fun b q => by
  cases q
  rcases g with ⟨kvs, k, e, _, _⟩ | ⟨kvs, k, b, e, _, _, _⟩
  · obtain ⟨_, _, vs, _, ob, _, _, h1, h2, _⟩ := dk_rd I.hok e
    exact ⟨ob, h1, h2.2.1⟩
  · obtain ⟨_, _, xs, _, ob, _, _, h1, h2, _⟩ := dt_rd I.hok e
    exact ⟨ob, h1, h2.2.1⟩

/-- d[y] -/
def tDGet (td ty : TE) : TE := fun σ H Q => td σ H fun x H1 => ty σ H1 fun y H2 => ∃ a v, x = .ref a ∧ DGet H2 a y (some v) ∧ Q v H2
/-- y in d, y not in d -/
def tDIn (ty td : TE) : TE := fun σ H Q => ty σ H fun y H1 => td σ H1 fun x H2 => ∃ a o, x = .ref a ∧ DGet H2 a y o ∧ Q (.bl o.isSome) H2
def tDNotIn (ty td : TE) : TE := fun σ H Q => ty σ H fun y H1 => td σ H1 fun x H2 => ∃ a o, x = .ref a ∧ DGet H2 a y o ∧ Q (.bl (!o.isSome)) H2
/-- d[y] = v -/
def sDPut (td ty tv : TE) : TS := fun D σ H => tv σ H fun v H1 => td σ H1 fun x H2 => ty σ H2 fun y H3 => ∃ a H4, x = .ref a ∧ DPut H3 a y v H4 ∧ D.nx σ H4
/-- d[y] op= v -/
def sDAug (td ty tv : TE) (rd : V → V → Hp → VK → Prop) : TS := fun D σ H => td σ H fun x H1 => ty σ H1 fun y H2 => ∃ a v, x = .ref a ∧ DGet H2 a y (some v) ∧
  tv σ H2 fun y2 H3 => rd v y2 H3 fun z H4 => ∃ H5, DPut H4 a y z H5 ∧ D.nx σ H5
/-- del d[y] -/
def sDDel (td ty : TE) : TS := fun D σ H => td σ H fun x H1 => ty σ H1 fun y H2 => ∃ a kvs k, x = .ref a ∧ H2 a = some (.dK kvs) ∧ y = kV k ∧ (valV kvs k).isSome = true ∧ D.nx σ (upd H2 a (.dK (dropK kvs k)))

section
variable {X : Cx} {o i e value : Expr} {pos pos' tpos : Pos} {td ty tv : TE}
theorem pe_dget (hu : X.A.units + 1 < cLine) (ho : PE X o td) (hi : PE X i ty) (hs : NoSl i) : PE X (.Subscript o i pos) (tDGet td ty) := by
  intro pins s σ H Q I h
  refine subD_of PySem.F.slot_dict_getitem.lookup hs (thn (ho pins s σ H _ I h) fun u s1 ⟨x, H1, I1, rx, q1⟩ => thn (hi pins s1 σ H1 _ I1 q1) fun iv s2 ⟨y, H2, I2, ry, a, v, ex, g, q2⟩ => ?_)
  subst ex
  obtain rfl : u = Value.ref a := rx
  exact ⟨dict_typeIs I2 g, d_getItem hu I2 g ry fun w' s3 I3 rw' => ⟨v, H2, I3, rw', q2⟩⟩
theorem pc_din (hu : X.A.units + 1 < cLine) (hi : PE X i ty) (ho : PE X o td) : PC X .In i o (tDIn ty td) := by
  intro pins s σ H Q I h
  refine thn (hi pins s σ H _ I h) fun iv s1 ⟨y, H1, I1, ry, q1⟩ => thn (ho pins s1 σ H1 _ I1 q1) fun u s2 ⟨x, H2, I2, rx, a, ov, ex, g, q2⟩ => ?_
  subst ex
  obtain rfl : u = Value.ref a := rx
  exact d_in hu I2 g ry fun s3 I3 => ⟨.bl ov.isSome, H2, I3, rfl, q2⟩
theorem pc_dnotin (hu : X.A.units + 1 < cLine) (hi : PE X i ty) (ho : PE X o td) : PC X .NotIn i o (tDNotIn ty td) := by
  intro pins s σ H Q I h
  refine thn (hi pins s σ H _ I h) fun iv s1 ⟨y, H1, I1, ry, q1⟩ => thn (ho pins s1 σ H1 _ I1 q1) fun u s2 ⟨x, H2, I2, rx, a, ov, ex, g, q2⟩ => ?_
  subst ex
  obtain rfl : u = Value.ref a := rx
  exact d_notIn hu I2 g ry fun s3 I3 => ⟨.bl (!ov.isSome), H2, I3, rfl, q2⟩
theorem ps_dput (hu : X.A.units + 1 < cLine) (ho : PE X o td) (hi : PE X i ty) (hv : PE X value tv) (hs : swapsWith value (some (.Subscript o i pos')) pos.line X.env = pure false) :
    PS X (.Assign [.Subscript o i pos'] value pos) (sDPut td ty tv) := by
  intro pins s σ H D I h
  refine wpAny_Assign_Subscript (thn (hv pins s σ H _ I h) fun r s1 ⟨v, H1, I1, rv, q1⟩ => thn (ho pins s1 σ H1 _ I1 q1) fun u s2 ⟨x, H2, I2, rx, q2⟩ => thn (hi pins s2 σ H2 _ I2 q2) fun iv s3 ⟨y, H3, I3, ry, a, H4, ex, g, q3⟩ => ?_) hs
  subst ex
  obtain rfl : u = Value.ref a := rx
  exact d_setItem hu I3 g ry rv fun s4 I4 => ⟨σ, H4, I4, q3⟩
theorem ps_daug {op : Operator} {rd : V → V → Hp → VK → Prop} (hu : X.A.units + 1 < cLine) (ho : PE X o td) (hi : PE X i ty) (hv : PE X value tv) (hop : InOp X op rd)
    (ha : ∀ ov iv new, augStore i ov iv new = (do holding [new, ov, iv] (setItem ov iv new); release [new, ov, iv] []; pure .next)) : PS X (.AugAssign (.Subscript o i tpos) op value pos) (sDAug td ty tv rd) := by
  intro pins s σ H D I h
  refine wpAny_AugAssign_SubscriptAny (thn (ho pins s σ H _ I h) fun u s1 ⟨x, H1, I1, rx, q1⟩ => thn (hi pins s1 σ H1 _ I1 q1) fun iv s2 ⟨y, H2, I2, ry, a, v, ex, g, q2⟩ => ?_) ha
  subst ex
  obtain rfl : u = Value.ref a := rx
  refine d_getItem hu I2 g ry fun w' s3 I3 rw' => thn (hv pins s3 σ H2 _ I3 q2) fun w2 s4 ⟨y2, H3, I4, ry2, q3⟩ => thn (hop pins s4 σ H3 v y2 w' w2 _ I4 rw' ry2 q3) fun w3 s5 ⟨z, H4, I5, rz, H5, g5, q4⟩ => ?_
  exact d_setItem hu I5 g5 ry rz fun s6 I6 => ⟨σ, H5, I6, q4⟩
theorem ps_ddel (ho : PE X o td) (hi : PE X i ty) : PS X (.Delete [.Subscript o i tpos] pos) (sDDel td ty) := by
  intro pins s σ H D I h
  refine wpAny_Delete (wpAny_deleteEach_cons (wpAny_delete_Subscript (thn (ho pins s σ H _ I h) fun u s1 ⟨x, H1, I1, rx, q1⟩ => thn (hi pins s1 σ H1 _ I1 q1) fun iv s2 ⟨y, H2, I2, ry, a, kvs, k, ex, e, ey, l, q2⟩ => ?_)))
  subst ex ey
  obtain rfl : u = Value.ref a := rx
  exact d_delItem I2 e ry l fun s3 I3 => wpAny_deleteEach_nil ⟨σ, _, I3, q2⟩
end


/-! ### displays -/
theorem dk_empty {P : Program} {w : World} {H : Hp} (h : Heap) (hb : sysModules < h.objs.size) : ObjOk P w H (h.push { cls := .type "dict", data := .dict #[] }) h.objs.size (.dK []) :=
  ⟨Nat.zero_le _, beq_eq_false_iff_ne.mpr (Ne.symm (Nat.ne_of_lt hb)), [], .nil, Heap.DictOf.new h⟩
theorem dt_empty {P : Program} {w : World} {H : Hp} (h : Heap) (hb : sysModules < h.objs.size) : ObjOk P w H (h.push { cls := .type "dict", data := .dict #[] }) h.objs.size (.dT []) :=
  ⟨Nat.zero_le _, beq_eq_false_iff_ne.mpr (Ne.symm (Nat.ne_of_lt hb)), [], .nil, _, #[], 0, Heap.get?_push_size _ rfl, ⟨rfl, rfl, rfl⟩, rfl, rfl, List.nodup_nil⟩
/-- {}, to be a dict of the kind that is wanted -/
def tDNewK : TE := fun _ H Q => ∀ p, H p = none → Q (.ref p) (upd H p (.dK []))
def tDNewT : TE := fun _ H Q => ∀ p, H p = none → Q (.ref p) (upd H p (.dT []))
section
variable {X : Cx} {pos : Pos}
theorem pe_dnewK : PE X (.Dict [] [] pos) tDNewK := fun pins s σ H Q I h =>
  wpAny_Dict_empty ⟨.ref s.heap.objs.size, _, I.laid (a := s.heap.objs.size) (o := .dK []) (t' := s.toks) (fun _ _ q => Heap.get?_push_of_some _ q) (Nat.le_refl _) (dk_empty s.heap I.big), rfl, h _ (I.hok.fresh (Nat.le_refl _))⟩
theorem pe_dnewT : PE X (.Dict [] [] pos) tDNewT := fun pins s σ H Q I h =>
  wpAny_Dict_empty ⟨.ref s.heap.objs.size, _, I.laid (a := s.heap.objs.size) (o := .dT []) (t' := s.toks) (fun _ _ q => Heap.get?_push_of_some _ q) (Nat.le_refl _) (dt_empty s.heap I.big), rfl, h _ (I.hok.fresh (Nat.le_refl _))⟩
end

/-- the pairs of a display, from the left -/
def tPairs : List (TE × TE) → St → Hp → (List (V × V) → Hp → Prop) → Prop
  | [], _, H, Q => Q [] H
  | (tk, tv) :: r, σ, H, Q => tk σ H fun x H1 => tv σ H1 fun y H2 => tPairs r σ H2 fun ps H3 => Q ((x, y) :: ps) H3
abbrev VV : List (V × V) → List (Value × Value) → Prop := Paired fun p q => RelV p.1 q.1 ∧ RelV p.2 q.2
def PPs (X : Cx) (pos : Pos) (keys : List (Option Expr)) (values : List Expr) (trs : List (TE × TE)) : Prop :=
  ∀ (pins : List (Addr × Obj)) (s : Shared) (σ : St) (H : Hp) (Q : List (V × V) → Hp → Prop), Inv X pins σ H s → tPairs trs σ H Q →
    wpAny (model X.prog X.w) X.A (evalPairs (pairTrees keys values X.env pos)) (fun vs s' => ∃ ps H', Inv X pins σ H' s' ∧ VV ps vs ∧ Q ps H') X.xe s
theorem pps_nil {X : Cx} {pos : Pos} : PPs X pos [] [] [] := fun pins s σ H Q I h => pairTrees_nil_walk ⟨[], H, I, .nil, h⟩
theorem pps_cons {X : Cx} {pos : Pos} {k v : Expr} {ks : List (Option Expr)} {vs : List Expr} {tk tv : TE} {trs : List (TE × TE)} (hk : PE X k tk) (hv : PE X v tv) (hr : PPs X pos ks vs trs) :
    PPs X pos (some k :: ks) (v :: vs) ((tk, tv) :: trs) := fun pins s σ H Q I h =>
  pairTrees_cons_walk (thn (hk pins s σ H _ I h) fun u s1 ⟨x, H1, I1, rx, q1⟩ => thn (hv pins s1 σ H1 _ I1 q1) fun w2 s2 ⟨y, H2, I2, ry, q2⟩ =>
    thn (hr pins s2 σ H2 _ I2 q2) fun ws s3 ⟨ps, H3, I3, rel, q3⟩ => ⟨(x, y) :: ps, H3, I3, .cons ⟨rx, ry⟩ rel, q3⟩)

def mergeK (kvs more : List (Key × V)) : List (Key × V) := more.foldl (fun acc kv => putK acc kv.1 kv.2) kvs
theorem KV.merge : ∀ {more : List (Key × V)} {rs : List (Key × Value)} {kvs : List (Key × V)} {vs : List (Key × Value)}, KV more rs → KV kvs vs → KV (mergeK kvs more) (merged vs rs) := by
  intro more rs kvs vs r
  unfold KV at r
  induction r generalizing kvs vs with
  | nil => intro q; exact q
  | @cons p q ps qs h t ih =>
    intro r0
    have e : KV (putK kvs p.1 p.2) (stored vs q.1 q.2) := by
      have := r0.put p.1 h.2
      rw [← h.1]; exact this
    exact ih e
theorem length_mergeK : ∀ (more kvs : List (Key × V)), (mergeK kvs more).length ≤ kvs.length + more.length
  | [], kvs => by show kvs.length ≤ kvs.length + 0; omega
  | p :: r, kvs => by
    have h1 := length_mergeK r (putK kvs p.1 p.2)
    have h2 := length_putK kvs p.1 p.2
    show (mergeK (putK kvs p.1 p.2) r).length ≤ _
    rw [List.length_cons]; omega
theorem carries_of {P : Program} {w : World} : ∀ {kvs : List (Key × V)} {ws : List (Value × Value)}, VV (kvs.map fun kv => (kV kv.1, kv.2)) ws → ∃ rs, Carries (mixKind P w) ws rs ∧ KV kvs rs
  | [], _, r => by rw [List.map_nil] at r; cases r; exact ⟨[], True.intro, .nil⟩
  | p :: kvs, _, r => by
    rw [List.map_cons] at r
    cases r with
    | @cons a b as bs h t =>
      obtain ⟨rs, c, q⟩ := carries_of (P := P) (w := w) t
      obtain ⟨b1, b2⟩ := b
      exact ⟨(p.1, b2) :: rs, ⟨kV_is h.1, rfl, c⟩, .cons ⟨rfl, h.2⟩ q⟩
/-- {k: v, ..} with keys ints and texts; the new dict stands empty while the pairs are made -/
def tDisp (trs : List (TE × TE)) : TE := fun σ H Q => ∀ p, H p = none → tPairs trs σ (upd H p (.dK [])) fun ps H2 => H2 p = some (.dK []) ∧ ∃ kvs : List (Key × V), ps = kvs.map (fun kv => (kV kv.1, kv.2)) ∧ kvs.length ≤ 15 ∧ Q (.ref p) (upd H2 p (.dK (mergeK [] kvs)))
theorem pe_disp {X : Cx} {pos : Pos} {keys : List (Option Expr)} {values : List Expr} {trs : List (TE × TE)} (h : PPs X pos keys values trs) (hall : keys.all (·.isSome) = true) (hl : keys.length = values.length) (h0 : keys ≠ [])
    (h15 : keys.length ≤ 15) : PE X (.Dict keys values pos) (tDisp trs) := by
  intro pins s σ H Q I q
  have hn := I.hok.fresh (Nat.le_refl s.heap.objs.size)
  have I1 := I.laid (a := s.heap.objs.size) (o := .dK []) (h' := s.heap.push { cls := .type "dict", data := .dict #[] }) (t' := s.toks) (fun _ _ q => Heap.get?_push_of_some _ q) (Nat.le_refl _) (dk_empty s.heap I.big)
  refine wpAny_Dict_walk (knd := mixKind X.prog X.w) hall hl h0 h15 (thn (h pins _ σ _ _ I1 (q _ hn)) fun ws s2 ⟨ps, H2, I2, rel, e, kvs, ep, lk, q2⟩ => ?_)
  subst ep
  obtain ⟨rs, c, rk⟩ := carries_of (P := X.prog) (w := X.w) rel
  obtain ⟨z, hd, vs0, r0, dd⟩ := dk_of I2.hok e
  cases r0
  refine ⟨rs, c, dd, fun h' dd' hs => ⟨.ref s.heap.objs.size, _, ?_, rfl, q2⟩⟩
  have hz : (mergeK [] kvs).length ≤ sizeLine := by
    have h1 := length_mergeK kvs []
    rw [List.length_nil] at h1
    rw [sizeLine_eq]; omega
  have he : ∃ q, h'.get? s.heap.objs.size = some q := let ⟨q, _, _, hq, _⟩ := dd'; ⟨q, hq⟩
  exact d_write I2 (by rw [e]; exact True.intro) hs he (dk_new hz hd (rk.merge .nil) dd')


/-! ### methods -/
/-- a method call o.m(e) of a built-in, with one argument: what must be seen of the text -/
structure M1 (X : Cx) (o : Expr) (m : Str) (apos : Pos) (e : Expr) (cpos : Pos) : Prop where
  base : attributeBase o m X.env (eval o X.env) = eval o X.env
  few : ((backTo cpos (starEach [e] X.env)).all (fun x => !x.1) && (backToKw cpos (keywordEach [] X.env)).all (fun x => x.1.isSome)
    && decide (([e] : List Expr).length + ([] : List Keyword).length + (if ([] : List Keyword).isEmpty then 0 else 1) < 30)) = true
  line : (apos.endLine == cpos.line) = true
  trees : backTo cpos (starEach [e] X.env) = [(false, eval e X.env)]
structure M2 (X : Cx) (o : Expr) (m : Str) (apos : Pos) (e f : Expr) (cpos : Pos) : Prop where
  base : attributeBase o m X.env (eval o X.env) = eval o X.env
  few : ((backTo cpos (starEach [e, f] X.env)).all (fun x => !x.1) && (backToKw cpos (keywordEach [] X.env)).all (fun x => x.1.isSome)
    && decide (([e, f] : List Expr).length + ([] : List Keyword).length + (if ([] : List Keyword).isEmpty then 0 else 1) < 30)) = true
  line : (apos.endLine == cpos.line) = true
  trees : backTo cpos (starEach [e, f] X.env) = [(false, eval e X.env), (false, eval f X.env)]

/-- a is a dict, whatever its keys -/
def IsD (H : Hp) (a : Addr) : Prop := (∃ kvs, Rd H a (.dK kvs)) ∨ ∃ kvs, Rd H a (.dT kvs)
theorem isD_at {X : Cx} {pins : List (Addr × Obj)} {σ : St} {H : Hp} {s : Shared} {a : Addr} (I : Inv X pins σ H s) (d : IsD H a) :
    s.TypeIs (.ref a) "dict" ∧ (∀ b, Value.ref a = .ref b → ∃ ob, s.heap.get? b = some ob ∧ ob.dict = none) ∧ (a == sysModules) = false := by
  rcases d with ⟨kvs, e⟩ | ⟨kvs, e⟩
  · obtain ⟨_, hd, vs, _, dd⟩ := dk_rd I.hok e
    refine ⟨dd.typeIs, fun b q => ?_, hd⟩
    cases q
    obtain ⟨ob, _, _, h1, h2, _⟩ := dd
    exact ⟨ob, h1, h2.2.1⟩
  · obtain ⟨_, hd, xs, _, dd⟩ := dt_rd I.hok e
    refine ⟨dd.typeIs, fun b q => ?_, hd⟩
    cases q
    obtain ⟨ob, _, _, h1, h2, _⟩ := dd
    exact ⟨ob, h1, h2.2.1⟩

section
variable {X : Cx} {pins : List (Addr × Obj)} {σ : St} {H : Hp} {s : Shared} {a : Addr} {y d : V} {u r : Value} {o : Option V} {A : Around} {E : Value → Shared → Prop}
/-- d.get(y) -/
theorem d_get1 {Q : Value → Shared → Prop} (hu : A.units + 1 < cLine) (I : Inv X pins σ H s) (g : DGet H a y o) (ry : RelV y u) (h : ∀ w' s', Inv X pins σ H s' → RelV (o.getD .non) w' → Q w' s') :
    wpAny (model X.prog X.w) A (call (.builtin "dict.get") [.ref a, u]) Q E s := by
  rcases g with ⟨kvs, k, e, ey, l⟩ | ⟨kvs, k, b, e, ey, eb, l⟩
  · subst ey
    obtain ⟨z, hd, vs, rel, dd⟩ := dk_rd I.hok e
    refine call_meetsIn PySem.F.slot_dict_get dd.typeIs PySem.F.entry_dict_get (PySem.F.args_dict_get_2 _ _) (meets_dict_get (mixKind X.prog X.w) a (kV_is ry) hd) ⟨_, dd.mapOf, h _ _ (I.tok _) ?_⟩
    rw [l]
    exact (rel.val k).getD rfl
  · subst ey
    cases (show u = Value.ref b from ry)
    obtain ⟨z, hd, xs, rel, dd⟩ := dt_rd I.hok e
    refine call_meetsIn PySem.F.slot_dict_get dd.typeIs PySem.F.entry_dict_get (PySem.F.args_dict_get_2 _ _) (meetsH_dict_get (tupleKind (mixKind X.prog X.w)) a b hd) ⟨tupleKind_room_in1 hu, k, xs, key_of I.hok eb, dd, h _ _ (I.tok _) ?_⟩
    rw [l]
    exact (rel.val k).getD rfl
/-- d.get(y, x) -/
theorem d_get2 {Q : Value → Shared → Prop} (hu : A.units + 1 < cLine) (I : Inv X pins σ H s) (g : DGet H a y o) (ry : RelV y u) (rd : RelV d r) (h : ∀ w' s', Inv X pins σ H s' → RelV (o.getD d) w' → Q w' s') :
    wpAny (model X.prog X.w) A (call (.builtin "dict.get") [.ref a, u, r]) Q E s := by
  rcases g with ⟨kvs, k, e, ey, l⟩ | ⟨kvs, k, b, e, ey, eb, l⟩
  · subst ey
    obtain ⟨z, hd, vs, rel, dd⟩ := dk_rd I.hok e
    refine call_meetsIn PySem.F.slot_dict_get dd.typeIs PySem.F.entry_dict_get (PySem.F.args_dict_get_3 _ _ _) (meets_dict_get_default (mixKind X.prog X.w) a (kV_is ry) hd r) ⟨_, dd.mapOf, h _ _ (I.tok _) ?_⟩
    rw [l]
    exact (rel.val k).getD rd
  · subst ey
    cases (show u = Value.ref b from ry)
    obtain ⟨z, hd, xs, rel, dd⟩ := dt_rd I.hok e
    refine call_meetsIn PySem.F.slot_dict_get dd.typeIs PySem.F.entry_dict_get (PySem.F.args_dict_get_3 _ _ _) (meetsH_dict_get_default (tupleKind (mixKind X.prog X.w)) a b hd r) ⟨tupleKind_room_in1 hu, k, xs, key_of I.hok eb, dd, h _ _ (I.tok _) ?_⟩
    rw [l]
    exact (rel.val k).getD rd
end

def tDGet1 (td ty : TE) : TE := fun σ H Q => td σ H fun x H1 => ∃ a, x = .ref a ∧ IsD H1 a ∧ ty σ H1 fun y H2 => ∃ o, DGet H2 a y o ∧ Q (o.getD .non) H2
def tDGet2 (td ty tx : TE) : TE := fun σ H Q => td σ H fun x H1 => ∃ a, x = .ref a ∧ IsD H1 a ∧ ty σ H1 fun y H2 => tx σ H2 fun z H3 => ∃ o, DGet H3 a y o ∧ Q (o.getD z) H3
/-- d.pop(k): there; d.pop(k, x): there or not -/
def tDPop1 (td ty : TE) : TE := fun σ H Q => td σ H fun x H1 => ∃ a, x = .ref a ∧ IsD H1 a ∧ ty σ H1 fun y H2 => ∃ kvs k v, H2 a = some (.dK kvs) ∧ y = kV k ∧ valV kvs k = some v ∧ Q v (upd H2 a (.dK (dropK kvs k)))
def tDPop2 (td ty tx : TE) : TE := fun σ H Q => td σ H fun x H1 => ∃ a, x = .ref a ∧ IsD H1 a ∧ ty σ H1 fun y H2 => tx σ H2 fun z H3 => ∃ kvs k, H3 a = some (.dK kvs) ∧ y = kV k ∧
  (∀ v, valV kvs k = some v → Q v (upd H3 a (.dK (dropK kvs k)))) ∧ (valV kvs k = none → Q z H3)
section
variable {X : Cx} {o e f : Expr} {apos cpos : Pos} {td ty tx : TE}
theorem pe_dget1 (hu : X.A.units + 1 < cLine) (ho : PE X o td) (he : PE X e ty) (m : M1 X o "get" apos e cpos) : PE X (.Call (.Attribute o "get" apos) [e] [] cpos) (tDGet1 td ty) := by
  intro pins s σ H Q I h
  refine wpAny_Call_method m.base m.few m.line PySem.F.plainAttrs_dict PySem.F.slot_dict_get PySem.F.type_dict_get (thn (ho pins s σ H _ I h) fun u s1 ⟨x, H1, I1, rx, a, ex, d, q1⟩ => ?_)
  subst ex
  obtain rfl : u = Value.ref a := rx
  obtain ⟨t1, t2, _⟩ := isD_at I1 d
  refine ⟨t1, t2, ?_⟩
  rw [m.trees]
  refine Calls.callWith_builtin rfl (Calls.evalArgs_plain (Calls.spliced_cons (thn (he pins s1 σ H1 _ I1 q1) fun iv s2 ⟨y, H2, I2, ry, ov, g, q2⟩ => Calls.spliced_nil ?_)))
  exact d_get1 hu I2 g ry fun w' s3 I3 rw' => ⟨_, H2, I3, rw', q2⟩
theorem pe_dget2 (hu : X.A.units + 1 < cLine) (ho : PE X o td) (he : PE X e ty) (hf : PE X f tx) (m : M2 X o "get" apos e f cpos) : PE X (.Call (.Attribute o "get" apos) [e, f] [] cpos) (tDGet2 td ty tx) := by
  intro pins s σ H Q I h
  refine wpAny_Call_method m.base m.few m.line PySem.F.plainAttrs_dict PySem.F.slot_dict_get PySem.F.type_dict_get (thn (ho pins s σ H _ I h) fun u s1 ⟨x, H1, I1, rx, a, ex, d, q1⟩ => ?_)
  subst ex
  obtain rfl : u = Value.ref a := rx
  obtain ⟨t1, t2, _⟩ := isD_at I1 d
  refine ⟨t1, t2, ?_⟩
  rw [m.trees]
  refine Calls.callWith_builtin rfl (Calls.evalArgs_plain (Calls.spliced_cons (thn (he pins s1 σ H1 _ I1 q1) fun iv s2 ⟨y, H2, I2, ry, q2⟩ =>
    Calls.spliced_cons (thn (hf pins s2 σ H2 _ I2 q2) fun fv s3 ⟨z, H3, I3, rz, ov, g, q3⟩ => Calls.spliced_nil ?_))))
  exact d_get2 hu I3 g ry rz fun w' s4 I4 rw' => ⟨_, H3, I4, rw', q3⟩
theorem pe_dpop1 (ho : PE X o td) (he : PE X e ty) (m : M1 X o "pop" apos e cpos) : PE X (.Call (.Attribute o "pop" apos) [e] [] cpos) (tDPop1 td ty) := by
  intro pins s σ H Q I h
  refine wpAny_Call_method m.base m.few m.line PySem.F.plainAttrs_dict PySem.F.slot_dict_pop PySem.F.type_dict_pop (thn (ho pins s σ H _ I h) fun u s1 ⟨x, H1, I1, rx, a, ex, d, q1⟩ => ?_)
  subst ex
  obtain rfl : u = Value.ref a := rx
  obtain ⟨t1, t2, _⟩ := isD_at I1 d
  refine ⟨t1, t2, ?_⟩
  rw [m.trees]
  refine Calls.callWith_builtin rfl (Calls.evalArgs_plain (Calls.spliced_cons (thn (he pins s1 σ H1 _ I1 q1) fun iv s2 ⟨y, H2, I2, ry, kvs, k, v, ea, ey, l, q2⟩ => Calls.spliced_nil ?_)))
  subst ey
  exact d_pop I2 ea ry l (.inl rfl) fun w' s3 I3 rw' => ⟨v, _, I3, rw', q2⟩
theorem pe_dpop2 (ho : PE X o td) (he : PE X e ty) (hf : PE X f tx) (m : M2 X o "pop" apos e f cpos) : PE X (.Call (.Attribute o "pop" apos) [e, f] [] cpos) (tDPop2 td ty tx) := by
  intro pins s σ H Q I h
  refine wpAny_Call_method m.base m.few m.line PySem.F.plainAttrs_dict PySem.F.slot_dict_pop PySem.F.type_dict_pop (thn (ho pins s σ H _ I h) fun u s1 ⟨x, H1, I1, rx, a, ex, d, q1⟩ => ?_)
  subst ex
  obtain rfl : u = Value.ref a := rx
  obtain ⟨t1, t2, _⟩ := isD_at I1 d
  refine ⟨t1, t2, ?_⟩
  rw [m.trees]
  refine Calls.callWith_builtin rfl (Calls.evalArgs_plain (Calls.spliced_cons (thn (he pins s1 σ H1 _ I1 q1) fun iv s2 ⟨y, H2, I2, ry, q2⟩ =>
    Calls.spliced_cons (thn (hf pins s2 σ H2 _ I2 q2) fun fv s3 ⟨z, H3, I3, rz, kvs, k, ea, ey, q3, q4⟩ => Calls.spliced_nil ?_))))
  subst ey
  cases l : valV kvs k with
  | some v => exact d_pop I3 ea ry l (.inr ⟨fv, rfl⟩) fun w' s4 I4 rw' => ⟨v, _, I4, rw', q3 v l⟩
  | none => exact d_popD I3 ea ry l fun s4 I4 => ⟨z, H3, I4, rz, q4 l⟩
end

/-! ### dict(d): a copy -/
section
variable {X : Cx} {pins : List (Addr × Obj)} {σ : St} {H : Hp} {s : Shared} {a : Addr} {kvs : List (Key × V)} {A : Around} {E : Value → Shared → Prop}
theorem d_copyOf {Q : Value → Shared → Prop} (I : Inv X pins σ H s) (e : Rd H a (.dK kvs)) (h : ∀ p s', H p = none → Inv X pins σ (upd H p (.dK kvs)) s' → Q (.ref p) s') : wpAny (model X.prog X.w) A (call (.type "dict") [.ref a]) Q E s := by
  obtain ⟨z, hd, vs, rel, dd⟩ := dk_rd I.hok e
  refine kt_call_dict hd dd (by rw [← rel.length]; exact z) fun h' dd' hs => ?_
  refine h _ _ (I.hok.fresh (Nat.le_refl _)) (I.laid (a := s.heap.objs.size) (o := .dK kvs) (t' := s.toks) (fun b q hq => ?_) (Nat.le_refl _) (dk_new z (beq_eq_false_iff_ne.mpr (Ne.symm (Nat.ne_of_lt I.big))) rel dd'))
  exact (hs.2 b (Nat.ne_of_lt (Heap.lt_size hq))).trans (Heap.get?_push_of_some _ hq)
end


section
variable {X : Cx} {pins : List (Addr × Obj)} {σ : St} {H : Hp} {s : Shared} {a : Addr} {y : V} {u : Value} {A : Around} {E : Value → Shared → Prop}
/-- d[y], not there: a KeyError -/
theorem d_missing {Q : Value → Shared → Prop} (hu : A.units + 1 < cLine) (hh : A.handled = none) (I : Inv X pins σ H s) (g : DGet H a y none) (ry : RelV y u)
    (h : ∀ h' e t', Heap.NewExc s.heap h' e "KeyError" → E (.ref e) { s with heap := h', toks := t' }) : wpAny (model X.prog X.w) A (getItem (.ref a) u) Q E s := by
  rcases g with ⟨kvs, k, e, ey, l⟩ | ⟨kvs, k, b, e, ey, eb, l⟩
  · subst ey
    obtain ⟨z, hd, vs, rel, dd⟩ := dk_rd I.hok e
    have hn : valueAt vs k = none := RelO.none_of (by rw [l]; exact rel.val k)
    exact wpAny_getItem_missing_of (kV_is ry) hd hh dd.mapOf hn fun h' ex ne => h h' ex _ ne
  · subst ey
    cases (show u = Value.ref b from ry)
    obtain ⟨z, hd, xs, rel, dd⟩ := dt_rd I.hok e
    have hn : (atKey xs k).map (·.2) = none := RelO.none_of (by rw [l]; exact rel.val k)
    exact wpAny_getItem_missing_heap (tupleKind_room_in1 hu) (key_of I.hok eb) hd hh dd (Option.map_eq_none_iff.mp hn) fun h' ex ne => h h' ex _ ne
end
end L2
namespace L3
open PySem PySem.Spec PyProof.Rows L2
/-! ### data: tuples (and frozen lists) are values, lists and dicts stand in the heap -/
abbrev St := L2.St
inductive D where
  | non | bl (b : Bool) | int (i : Int) | str (x : Str) | tup (ds : List D) | fl (ds : List D) | ref (a : Addr) | ty (n : String)

/-- a list that nobody changes: the script, or one of the module's -/
def FzL (K : PySem.W.Frag) (H : Hp) (a : Addr) (xs : List V) : Prop :=
  (∃ o, H a = some (.frz o (.lst xs))) ∨
    ∃ (o : Obj) (its : Array Value) (n : Nat), K.lookup a = some o ∧ o.cls = .type "list" ∧ o.dict = none ∧ o.data = .seq its n ∧ its.size ≤ sizeLine ∧ Vals xs its.toList
theorem FzL.sq {K : PySem.W.Frag} {H : Hp} {a : Addr} {xs : List V} (h : FzL K H a xs) : SqL K H a xs := by
  rcases h with ⟨o, h⟩ | h
  · exact .inl (.inr ⟨o, h⟩)
  · exact .inr h

mutual
inductive Rep (K : PySem.W.Frag) (H : Hp) : D → V → Prop
  | non : Rep K H .non .non
  | bl (b : Bool) : Rep K H (.bl b) (.bl b)
  | int (i : Int) : Rep K H (.int i) (.int i)
  | str (x : Str) : Rep K H (.str x) (.str x)
  | ty (n : String) : Rep K H (.ty n) (.ty n)
  | ref (a : Addr) : Rep K H (.ref a) (.ref a)
  | tup {a : Addr} {xs : List V} {ds : List D} : H a = some (.tup xs) → RepL K H ds xs → Rep K H (.tup ds) (.ref a)
  | fl {a : Addr} {xs : List V} {ds : List D} : FzL K H a xs → RepL K H ds xs → Rep K H (.fl ds) (.ref a)
inductive RepL (K : PySem.W.Frag) (H : Hp) : List D → List V → Prop
  | nil : RepL K H [] []
  | cons {d : D} {v : V} {ds : List D} {vs : List V} : Rep K H d v → RepL K H ds vs → RepL K H (d :: ds) (v :: vs)
end

/-- tuples and frozen things are kept -/
structure TK (H H' : Hp) : Prop where
  tup : ∀ a xs, H a = some (.tup xs) → H' a = some (.tup xs)
  frz : ∀ a o u, H a = some (.frz o u) → H' a = some (.frz o u)
theorem TK.refl {H : Hp} : TK H H := ⟨fun _ _ h => h, fun _ _ _ h => h⟩
theorem TK.trans {H H1 H2 : Hp} (a : TK H H1) (b : TK H1 H2) : TK H H2 := ⟨fun c xs h => b.tup c xs (a.tup c xs h), fun c o u h => b.frz c o u (a.frz c o u h)⟩
theorem TK.fresh {H : Hp} {p : Addr} {o : HO} (n : H p = none) : TK H (upd H p o) :=
  ⟨fun a xs h => by rw [upd_ne (ne_of_none h n)]; exact h, fun a o' u h => by rw [upd_ne (ne_of_none h n)]; exact h⟩
theorem TK.lst {H : Hp} {p : Addr} {o : HO} {xs : List V} (n : H p = some (.lst xs)) : TK H (upd H p o) :=
  ⟨fun a ys h => by rw [upd_ne (ne_of h n (by intro z; cases z))]; exact h, fun a o' u h => by rw [upd_ne (ne_of h n (by intro z; cases z))]; exact h⟩
theorem TK.dT {H : Hp} {p : Addr} {o : HO} {xs : List (List Key × V)} (n : H p = some (.dT xs)) : TK H (upd H p o) :=
  ⟨fun a ys h => by rw [upd_ne (ne_of h n (by intro z; cases z))]; exact h, fun a o' u h => by rw [upd_ne (ne_of h n (by intro z; cases z))]; exact h⟩
theorem TK.sqT {K : PySem.W.Frag} {H H' : Hp} (t : TK H H') {a : Addr} {xs : List V} (h : SqT K H a xs) : SqT K H' a xs := by
  rcases h with (h | ⟨o, h⟩) | h
  · exact .inl (.inl (t.tup _ _ h))
  · exact .inl (.inr ⟨o, t.frz _ _ _ h⟩)
  · exact .inr h
theorem TK.fzL {K : PySem.W.Frag} {H H' : Hp} (t : TK H H') {a : Addr} {xs : List V} (h : FzL K H a xs) : FzL K H' a xs := by
  rcases h with ⟨o, h⟩ | h
  · exact .inl ⟨o, t.frz _ _ _ h⟩
  · exact .inr h
mutual
theorem Rep.mono {K : PySem.W.Frag} {H H' : Hp} (t : TK H H') : ∀ {d : D} {v : V}, Rep K H d v → Rep K H' d v
  | _, _, .non => .non
  | _, _, .bl b => .bl b
  | _, _, .int i => .int i
  | _, _, .str x => .str x
  | _, _, .ty n => .ty n
  | _, _, .ref a => .ref a
  | _, _, .tup h r => .tup (t.tup _ _ h) (RepL.mono t r)
  | _, _, .fl h r => .fl (t.fzL h) (RepL.mono t r)
theorem RepL.mono {K : PySem.W.Frag} {H H' : Hp} (t : TK H H') : ∀ {ds : List D} {vs : List V}, RepL K H ds vs → RepL K H' ds vs
  | _, _, .nil => .nil
  | _, _, .cons r s => .cons (Rep.mono t r) (RepL.mono t s)
end
section
variable {K : PySem.W.Frag} {H : Hp}
theorem RepL.length : ∀ {ds : List D} {vs : List V}, RepL K H ds vs → ds.length = vs.length
  | _, _, .nil => rfl
  | _, _, .cons _ s => by simp [RepL.length s]
theorem RepL.get : ∀ {ds : List D} {vs : List V} {i : Nat} {d : D}, RepL K H ds vs → ds[i]? = some d → ∃ v, vs[i]? = some v ∧ Rep K H d v
  | _, _, _, _, .nil, e => by simp at e
  | _, _, 0, _, .cons r _, e => by simp at e; subst e; exact ⟨_, rfl, r⟩
  | _, _, i + 1, d, .cons _ t, e => by
    obtain ⟨u, h1, h2⟩ := RepL.get (i := i) (d := d) t (by simpa using e)
    exact ⟨u, by simpa using h1, h2⟩
theorem RepL.getV : ∀ {ds : List D} {vs : List V} {i : Nat} {v : V}, RepL K H ds vs → vs[i]? = some v → ∃ d, ds[i]? = some d ∧ Rep K H d v
  | _, _, _, _, .nil, e => by simp at e
  | _, _, 0, _, .cons r _, e => by simp at e; subst e; exact ⟨_, rfl, r⟩
  | _, _, i + 1, v, .cons _ t, e => by
    obtain ⟨u, h1, h2⟩ := RepL.getV (i := i) (v := v) t (by simpa using e)
    exact ⟨u, by simpa using h1, h2⟩
theorem RepL.append : ∀ {ds es : List D} {vs us : List V}, RepL K H ds vs → RepL K H es us → RepL K H (ds ++ es) (vs ++ us)
  | _, _, _, _, .nil, s => s
  | _, _, _, _, .cons r t, s => .cons r (RepL.append t s)
theorem RepL.take : ∀ {ds : List D} {vs : List V} (n : Nat), RepL K H ds vs → RepL K H (ds.take n) (vs.take n)
  | _, _, 0, _ => .nil
  | _, _, _ + 1, .nil => .nil
  | _, _, n + 1, .cons r t => .cons r (RepL.take n t)
theorem RepL.drop : ∀ {ds : List D} {vs : List V} (n : Nat), RepL K H ds vs → RepL K H (ds.drop n) (vs.drop n)
  | _, _, 0, r => r
  | _, _, _ + 1, .nil => .nil
  | _, _, n + 1, .cons _ t => RepL.drop n t
theorem RepL.snoc {ds : List D} {vs : List V} {d : D} {v : V} (r : RepL K H ds vs) (s : Rep K H d v) : RepL K H (ds ++ [d]) (vs ++ [v]) := r.append (.cons s .nil)
theorem RepL.dropLast {ds : List D} {vs : List V} (r : RepL K H ds vs) : RepL K H ds.dropLast vs.dropLast := by
  rw [List.dropLast_eq_take, List.dropLast_eq_take, ← r.length]; exact r.take _
theorem RepL.ints : ∀ (ns : List Int), RepL K H (ns.map D.int) (ns.map V.int)
  | [] => .nil
  | n :: ns => .cons (.int n) (RepL.ints ns)
/-- ints are what they are -/
theorem RepL.ints_inv : ∀ {ns : List Int} {vs : List V}, RepL K H (ns.map D.int) vs → vs = ns.map V.int
  | [], _, .nil => rfl
  | _ :: ns, _, .cons (.int _) t => by rw [List.map_cons, RepL.ints_inv (ns := ns) t]
end

/-! ### the heap -/
inductive O3 where
  | lst (ds : List D)
  /-- a dict keyed by tuples of ints and texts -/
  | dic (kvs : List (List Key × D))
abbrev Hp3 := Addr → Option O3
def upd3 (H : Hp3) (a : Addr) (o : O3) : Hp3 := fun b => if b = a then some o else H b
theorem upd3_same {H : Hp3} {a : Addr} {o : O3} : upd3 H a o a = some o := by unfold upd3; rw [if_pos rfl]
theorem upd3_ne {H : Hp3} {a b : Addr} {o : O3} (h : b ≠ a) : upd3 H a o b = H b := by unfold upd3; rw [if_neg h]
theorem upd3_upd3 {H : Hp3} {a : Addr} {o u : O3} : upd3 (upd3 H a o) a u = upd3 H a u := by
  funext b; unfold upd3; split <;> rfl
theorem ne3 {H : Hp3} {a b : Addr} {o : O3} (h : H a = some o) (h' : H b = none) : a ≠ b := by
  intro e; subst e; rw [h] at h'; cases h'
def OR (K : PySem.W.Frag) (H : Hp) (a : Addr) : O3 → Prop
  | .lst ds => ∃ xs, H a = some (.lst xs) ∧ RepL K H ds xs
  | .dic kvs => ∃ ks, H a = some (.dT ks) ∧ Paired (fun (p : List Key × D) (q : List Key × V) => p.1 = q.1 ∧ Rep K H p.2 q.2) kvs ks
def HR (K : PySem.W.Frag) (H3 : Hp3) (H : Hp) : Prop := ∀ a o, H3 a = some o → OR K H a o
/-- part of a heap -/
def Sub3 (H H' : Hp3) : Prop := ∀ a o, H a = some o → H' a = some o
theorem Sub3.refl {H : Hp3} : Sub3 H H := fun _ _ h => h
theorem Sub3.trans {H H1 H2 : Hp3} (a : Sub3 H H1) (b : Sub3 H1 H2) : Sub3 H H2 := fun c o h => b c o (a c o h)
theorem Sub3.fresh {H : Hp3} {p : Addr} {o : O3} (n : H p = none) : Sub3 H (upd3 H p o) := fun a u h => by rw [upd3_ne (ne3 h n)]; exact h
theorem Sub3.upd {H H' : Hp3} {p : Addr} {o : O3} (s : Sub3 H H') (n : H p = none) : Sub3 H (upd3 H' p o) := fun a u h => by rw [upd3_ne (ne3 h n)]; exact s a u h
section
variable {K : PySem.W.Frag} {H H' : Hp} {H3 H3' : Hp3}
theorem HR.sub (h : HR K H3' H) (s : Sub3 H3 H3') : HR K H3 H := fun a o e => h a o (s a o e)
theorem HR.fresh (h : HR K H3 H) {p : Addr} (n : H p = none) : H3 p = none := by
  cases e : H3 p with
  | none => rfl
  | some o =>
    cases o with
    | lst ds => obtain ⟨xs, q, _⟩ := h p _ e; rw [n] at q; cases q
    | dic ks => obtain ⟨xs, q, _⟩ := h p _ e; rw [n] at q; cases q
theorem OR.keep {a : Addr} {o : O3} (x : OR K H a o) (t : TK H H') (e : H' a = H a) : OR K H' a o := by
  cases o with
  | lst ds => obtain ⟨xs, q, r⟩ := x; exact ⟨xs, e.trans q, r.mono t⟩
  | dic ks => obtain ⟨xs, q, r⟩ := x; exact ⟨xs, e.trans q, Paired.mapP r fun _ _ z => ⟨z.1, z.2.mono t⟩⟩
theorem HR.set (h : HR K H3 H) {p : Addr} {o : HO} {o3 : O3} (t : TK H (upd H p o)) (new : OR K (upd H p o) p o3) : HR K (upd3 H3 p o3) (upd H p o) := fun b u e => by
  by_cases hb : b = p
  · subst hb; rw [upd3_same] at e; cases e; exact new
  · rw [upd3_ne hb] at e; exact (h b u e).keep t (upd_ne hb)
theorem HR.setL (h : HR K H3 H) {p : Addr} {xs : List V} {ds : List D} (t : TK H (upd H p (.lst xs))) (r : RepL K (upd H p (.lst xs)) ds xs) : HR K (upd3 H3 p (.lst ds)) (upd H p (.lst xs)) := h.set (o3 := .lst ds) t ⟨xs, upd_same, r⟩
theorem HR.tup (h : HR K H3 H) {p : Addr} {xs : List V} (n : H p = none) : HR K H3 (upd H p (.tup xs)) := fun b u e => by
  have hb : b ≠ p := ne3 e (h.fresh n)
  exact (h b u e).keep (TK.fresh n) (upd_ne hb)
end

/-! ### states, readings -/
abbrev St3 := List (Option D)
abbrev VK3 := D → Hp3 → Prop
abbrev TE3 := St3 → Hp3 → VK3 → Prop
abbrev TT3 := St3 → Hp3 → (Bool → Hp3 → Prop) → Prop
abbrev TA3 := St3 → Hp3 → (List D → Hp3 → Prop) → Prop
structure Ends3 where
  nx : St3 → Hp3 → Prop
  rt : VK3
  bk : St3 → Hp3 → Prop := fun _ _ => False
  ct : St3 → Hp3 → Prop := fun _ _ => False
abbrev TS3 := Ends3 → St3 → Hp3 → Prop
structure SR (K : PySem.W.Frag) (H : Hp) (σ3 : St3) (σ : St) : Prop where
  len : σ3.length = σ.length
  get : ∀ (i : Nat) (d : D), σ3[i]? = some (some d) → ∃ v, σ[i]? = some (some v) ∧ Rep K H d v
theorem SR.mono {K : PySem.W.Frag} {H H' : Hp} {σ3 : St3} {σ : St} (s : SR K H σ3 σ) (t : TK H H') : SR K H' σ3 σ :=
  ⟨s.len, fun i d e => let ⟨v, h1, h2⟩ := s.get i d e; ⟨v, h1, h2.mono t⟩⟩
theorem SR.set {K : PySem.W.Frag} {H : Hp} {σ3 : St3} {σ : St} (s : SR K H σ3 σ) (i : Nat) {d : D} {v : V} (r : Rep K H d v) : SR K H (σ3.set i (some d)) (σ.set i (some v)) := by
  refine ⟨by simp [s.len], fun j e h => ?_⟩
  by_cases hj : j = i
  · subst hj
    by_cases hl : j < σ3.length
    · rw [List.getElem?_set_self hl] at h
      cases h
      exact ⟨v, by rw [List.getElem?_set_self (by rw [← s.len]; exact hl)], r⟩
    · rw [List.getElem?_eq_none (by simpa using hl)] at h; cases h
  · rw [List.getElem?_set_ne (Ne.symm hj)] at h
    obtain ⟨u, h1, h2⟩ := s.get j e h
    exact ⟨u, by rw [List.getElem?_set_ne (Ne.symm hj)]; exact h1, h2⟩
def KE (K : PySem.W.Frag) (H : Hp) (Q3 : VK3) (Q : VK) : Prop := ∀ d v H3' H', TK H H' → HR K H3' H' → Rep K H' d v → Q3 d H3' → Q v H'
def KT (K : PySem.W.Frag) (H : Hp) (Q3 : Bool → Hp3 → Prop) (Q : Bool → Hp → Prop) : Prop := ∀ b H3' H', TK H H' → HR K H3' H' → Q3 b H3' → Q b H'
def KA (K : PySem.W.Frag) (H : Hp) (Q3 : List D → Hp3 → Prop) (Q : List V → Hp → Prop) : Prop := ∀ ds vs H3' H', TK H H' → HR K H3' H' → RepL K H' ds vs → Q3 ds H3' → Q vs H'
def KN (K : PySem.W.Frag) (H : Hp) (Q3 : St3 → Hp3 → Prop) (Q : St → Hp → Prop) : Prop := ∀ σ3 σ H3' H', TK H H' → SR K H' σ3 σ → HR K H3' H' → Q3 σ3 H3' → Q σ H'
structure KS (K : PySem.W.Frag) (H : Hp) (D3 : Ends3) (D : Ends) : Prop where
  nx : KN K H D3.nx D.nx
  rt : KE K H D3.rt D.rt
  bk : KN K H D3.bk D.bk
  ct : KN K H D3.ct D.ct
theorem KE.mono {K : PySem.W.Frag} {H H1 : Hp} {Q3 : VK3} {Q : VK} (k : KE K H Q3 Q) (t : TK H H1) : KE K H1 Q3 Q := fun d v H3 H' t' => k d v H3 H' (t.trans t')
theorem KN.mono {K : PySem.W.Frag} {H H1 : Hp} {Q3 : St3 → Hp3 → Prop} {Q : St → Hp → Prop} (k : KN K H Q3 Q) (t : TK H H1) : KN K H1 Q3 Q := fun d v H3 H' t' => k d v H3 H' (t.trans t')
theorem KS.mono {K : PySem.W.Frag} {H H1 : Hp} {D3 : Ends3} {D : Ends} (k : KS K H D3 D) (t : TK H H1) : KS K H1 D3 D := ⟨k.nx.mono t, k.rt.mono t, k.bk.mono t, k.ct.mono t⟩
def liftE (K : PySem.W.Frag) (t : TE3) : TE := fun σ H Q => ∃ σ3 H3 Q3, SR K H σ3 σ ∧ HR K H3 H ∧ t σ3 H3 Q3 ∧ KE K H Q3 Q
def liftT (K : PySem.W.Frag) (t : TT3) : TT := fun σ H Q => ∃ σ3 H3 Q3, SR K H σ3 σ ∧ HR K H3 H ∧ t σ3 H3 Q3 ∧ KT K H Q3 Q
def liftA (K : PySem.W.Frag) (t : TA3) : TA := fun σ H Q => ∃ σ3 H3 Q3, SR K H σ3 σ ∧ HR K H3 H ∧ t σ3 H3 Q3 ∧ KA K H Q3 Q
def liftS (K : PySem.W.Frag) (t : TS3) : TS := fun D σ H => ∃ σ3 H3 D3, SR K H σ3 σ ∧ HR K H3 H ∧ t D3 σ3 H3 ∧ KS K H D3 D
def PE3 (X : Cx) (e : Expr) (t : TE3) : Prop := PE X e (liftE X.K t)
def PT3 (X : Cx) (e : Expr) (t : TT3) : Prop := PT X e (liftT X.K t)
def PW3 (X : Cx) (e : Expr) (t : TT3) : Prop := PW X e (liftT X.K t)
def PA3 (X : Cx) (es : List Expr) (t : TA3) : Prop := PA X es (liftA X.K t)
def PS3 (X : Cx) (st : Stmt) (t : TS3) : Prop := PS X st (liftS X.K t)
def PSs3 (X : Cx) (st : List Stmt) (t : TS3) : Prop := PSs X st (liftS X.K t)
section
variable {X : Cx} {e : Expr} {es : List Expr} {st : Stmt} {sts : List Stmt}
theorem pe_imp {t t' : TE} (h : PE X e t) (i : ∀ σ H Q, t' σ H Q → t σ H Q) : PE X e t' := fun pins s σ H Q I hw => h pins s σ H Q I (i σ H Q hw)
theorem pt_imp {t t' : TT} (h : PT X e t) (i : ∀ σ H Q, t' σ H Q → t σ H Q) : PT X e t' := fun pins s σ H Q I hw => h pins s σ H Q I (i σ H Q hw)
theorem pw_imp {t t' : TT} (h : PW X e t) (i : ∀ σ H Q, t' σ H Q → t σ H Q) : PW X e t' := fun wh pins s σ H Q I hw => h wh pins s σ H Q I (i σ H Q hw)
theorem pa_imp {t t' : TA} (h : PA X es t) (i : ∀ σ H Q, t' σ H Q → t σ H Q) : PA X es t' := fun pos pins s σ H Q I hw => h pos pins s σ H Q I (i σ H Q hw)
theorem ps_imp {t t' : TS} (h : PS X st t) (i : ∀ D σ H, t' D σ H → t D σ H) : PS X st t' := fun pins s σ H D I hw => h pins s σ H D I (i D σ H hw)
theorem pss_imp {t t' : TS} (h : PSs X sts t) (i : ∀ D σ H, t' D σ H → t D σ H) : PSs X sts t' := fun pins s σ H D I hw => h pins s σ H D I (i D σ H hw)
end
end L3

namespace L3
open PySem PySem.Spec PyProof.Rows L2
abbrev R3 := D → D → Hp3 → VK3 → Prop
def lift2 (K : PySem.W.Frag) (r : R3) : R2 := fun x y H Q => ∃ dx dy H3 Q3, HR K H3 H ∧ Rep K H dx x ∧ Rep K H dy y ∧ r dx dy H3 Q3 ∧ KE K H Q3 Q
def lift1 (K : PySem.W.Frag) (r : D → Hp3 → VK3 → Prop) : V → Hp → VK → Prop := fun x H Q => ∃ dx H3 Q3, HR K H3 H ∧ Rep K H dx x ∧ r dx H3 Q3 ∧ KE K H Q3 Q
def liftC (K : PySem.W.Frag) (r : List D → Hp3 → VK3 → Prop) : List V → Hp → VK → Prop := fun xs H Q => ∃ ds H3 Q3, HR K H3 H ∧ RepL K H ds xs ∧ r ds H3 Q3 ∧ KE K H Q3 Q
def liftM (K : PySem.W.Frag) (r : D → List D → Hp3 → VK3 → Prop) : V → List V → Hp → VK → Prop := fun x xs H Q => ∃ d ds H3 Q3, HR K H3 H ∧ Rep K H d x ∧ RepL K H ds xs ∧ r d ds H3 Q3 ∧ KE K H Q3 Q

section
variable {X : Cx} {a b c e : Expr} {es : List Expr} {pos : Pos} {ta tb tc te : TE3} {tr : TA3} {tA tB : TT3}
/-! ### names, constants -/
def v3 (i : Nat) : TE3 := fun σ H Q => match σ[i]? with
  | some (some d) => Q d H
  | _ => False
def c3 (d : D) : TE3 := fun _ H Q => Q d H
theorem p3_var (i : Nat) {x : Str} (hN : X.N[i]? = some x := by rfl) (hv : Vis X.env.scope x := by first | exact Or.inl rfl | exact Or.inr (Or.inl rfl) | exact Or.inr (Or.inr rfl)) (hd : (x == ("__debug__" : Str)) = false := by decide)
    (hcd : (x == ("__classdict__" : Str)) = false := by decide) : PE3 X (.Name x pos) (v3 i) :=
  pe_imp (pv i hN hv hd hcd) fun σ H Q ⟨σ3, H3, Q3, sr, hr, t, k⟩ => by
    unfold v3 at t
    split at t
    · rename_i d h
      obtain ⟨v, h1, r⟩ := sr.get i d h
      exact ⟨v, h1, k d v H3 H TK.refl hr r t⟩
    · exact t.elim
theorem p3_int {i : Int} {j : Nat} : PE3 X (.Constant (.int i) j pos) (c3 (.int i)) := pe_imp pe_int fun _ _ _ ⟨_, _, _, _, hr, t, k⟩ => k _ _ _ _ TK.refl hr (.int i) t
theorem p3_bl {i : Bool} {j : Nat} : PE3 X (.Constant (.bool i) j pos) (c3 (.bl i)) := pe_imp pe_bl fun _ _ _ ⟨_, _, _, _, hr, t, k⟩ => k _ _ _ _ TK.refl hr (.bl i) t
theorem p3_non {j : Nat} : PE3 X (.Constant .none j pos) (c3 .non) := pe_imp pe_non fun _ _ _ ⟨_, _, _, _, hr, t, k⟩ => k _ _ _ _ TK.refl hr .non t
theorem p3_str {i : Str} {j : Nat} : PE3 X (.Constant (.str i) j pos) (c3 (.str i)) := pe_imp pe_str fun _ _ _ ⟨_, _, _, _, hr, t, k⟩ => k _ _ _ _ TK.refl hr (.str i) t
/-- a built-in type by its name -/
theorem p3_ty {x : Str} {T : String} (hg : Gl X x) (hm : X.mg x = none) (hv : bootBuiltins x = some (.type T)) (hn : x ≠ "__name__" := by decide) (hd : (x == ("__debug__" : Str)) = false := by decide) : PE3 X (.Name x pos) (c3 (.ty T)) :=
  pe_imp (pe_bltn (v := .ty T) hg hm hv rfl hn hd) fun _ _ _ ⟨_, _, _, _, hr, t, k⟩ => k _ _ _ _ TK.refl hr (.ty T) t
/-- a name of the module: an int -/
theorem p3_globI {x : Str} {i : Int} {tk : Tok} (hg : Gl X x) (hm : X.mg x = some (.int i tk)) (hd : (x == ("__debug__" : Str)) = false := by decide) : PE3 X (.Name x pos) (c3 (.int i)) :=
  pe_imp (pe_glob (v := .int i) hg hm ⟨_, rfl⟩ hd) fun _ _ _ ⟨_, _, _, _, hr, t, k⟩ => k _ _ _ _ TK.refl hr (.int i) t

/-! ### two places -/
def o3 (r : R3) (ta tb : TE3) : TE3 := fun σ H Q => ta σ H fun x H1 => tb σ H1 fun y H2 => r x y H2 Q
theorem lift_bin {K : PySem.W.Frag} {r : R3} {σ : St} {H : Hp} {Q : VK} (h : liftE K (o3 r ta tb) σ H Q) : tOp (lift2 K r) (liftE K ta) (liftE K tb) σ H Q := by
  obtain ⟨σ3, H3, Q3, sr, hr, t, k⟩ := h
  exact ⟨σ3, H3, _, sr, hr, t, fun x v H3a Ha tka hra rx qa => ⟨σ3, H3a, _, sr.mono tka, hra, qa, fun y u H3b Hb tkb hrb ry qb =>
    ⟨x, y, H3b, Q3, hrb, rx.mono tkb, ry, qb, k.mono (tka.trans tkb)⟩⟩⟩
theorem p3_op {op : Operator} {r : R3} (ho : OpR X (binaryOp op) (lift2 X.K r)) (ha : PE3 X a ta) (hb : PE3 X b tb) : PE3 X (.BinOp a op b pos) (o3 r ta tb) :=
  pe_imp (pe_op ho ha hb) fun _ _ _ h => lift_bin h
theorem p3_cmp {op : CmpOp} {r : R3} (ho : OpR X (compareOp op) (lift2 X.K r)) (ha : PE3 X a ta) (hb : PE3 X b tb) (hm : behindInMarks op b = false := by first | exact nomark _ | with_unfolding_all rfl) : PE3 X (.Compare a [op] [b] pos) (o3 r ta tb) :=
  pe_imp (pe_cmpR ho ha hb hm) fun _ _ _ h => lift_bin h
theorem p3_ix {r : R3} (hr : IxR X (lift2 X.K r)) (ha : PE3 X a ta) (hb : PE3 X b tb) (hs : PlainIx b := by exact fun _ _ => rfl) : PE3 X (.Subscript a b pos) (o3 r ta tb) :=
  pe_imp (pe_ix hr ha hb hs) fun _ _ _ h => lift_bin h
def u3 (r : D → Hp3 → VK3 → Prop) (ta : TE3) : TE3 := fun σ H Q => ta σ H fun x H1 => r x H1 Q
theorem p3_un {op : UnaryOp} {r : D → Hp3 → VK3 → Prop} (ho : UnR X (unaryOp op) (lift1 X.K r)) (ha : PE3 X a ta) : PE3 X (.UnaryOp op a pos) (u3 r ta) :=
  pe_imp (pe_un ho ha) fun _ _ _ ⟨σ3, H3, Q3, sr, hr, t, k⟩ => ⟨σ3, H3, _, sr, hr, t, fun x v H3a Ha tka hra rx qa => ⟨x, H3a, Q3, hra, rx, qa, k.mono tka⟩⟩

/-! ### tests -/
def bt (d : D) (H : Hp3) (Q : Bool → Hp3 → Prop) : Prop := match d with
  | .bl k => Q k H
  | _ => False
theorem ke_test {K : PySem.W.Frag} {H : Hp} {Q3 : Bool → Hp3 → Prop} {Q : Bool → Hp → Prop} (k : KT K H Q3 Q) : KE K H (fun d H1 => bt d H1 Q3) (fun x H' => ∃ c, x = .bl c ∧ Q c H') := fun d v H3' H' tk hr rep q => by
  cases rep with
  | bl b => exact ⟨b, rfl, k _ _ _ tk hr q⟩
  | _ => exact q.elim
def ts3 (t : TE3) : TT3 := fun σ H Q => t σ H fun d H1 => bt d H1 Q
theorem p3_tcmp {op : CmpOp} {r : R3} (ho : OpR X (compareOp op) (lift2 X.K r)) (ha : PE3 X a ta) (hb : PE3 X b tb) (hm : behindInMarks op b = false := by first | exact nomark _ | with_unfolding_all rfl) : PT3 X (.Compare a [op] [b] pos) (ts3 (o3 r ta tb)) :=
  pt_imp (pt_cmpR ho ha hb hm) fun _ _ _ ⟨σ3, H3, Q3, sr, hr, t, k⟩ => lift_bin ⟨σ3, H3, _, sr, hr, t, ke_test k⟩
/-- a value that is a bool, as a test -/
theorem p3_tval (h : PE3 X e te) (he : ∀ whole, isTrue e X.env whole = (do let v ← whole; standAt e.pos; holding [v] (truthy v)) := by intro _; rfl) : PT3 X e (ts3 te) :=
  pt_imp (pt_val h he) fun _ _ _ ⟨σ3, H3, Q3, sr, hr, t, k⟩ => ⟨σ3, H3, _, sr, hr, t, ke_test k⟩
def an3 (t u : TT3) : TT3 := fun σ H Q => t σ H fun c H1 => if c = true then u σ H1 Q else Q false H1
def or3 (t u : TT3) : TT3 := fun σ H Q => t σ H fun c H1 => if c = true then Q true H1 else u σ H1 Q
def no3 (t : TT3) : TT3 := fun σ H Q => t σ H fun c H1 => Q (!c) H1
variable {rest : List Expr}
theorem KT.mono {K : PySem.W.Frag} {H H1 : Hp} {Q3 : Bool → Hp3 → Prop} {Q : Bool → Hp → Prop} (k : KT K H Q3 Q) (t : TK H H1) : KT K H1 Q3 Q := fun d H3 H' t' => k d H3 H' (t.trans t')
theorem p3_wand1 (ha : PT3 X a tA) : PW3 X (.BoolOp .And [a] pos) tA := pw_and1 ha
theorem p3_wor1 (ha : PT3 X a tA) : PW3 X (.BoolOp .Or [a] pos) tA := pw_or1 ha
theorem p3_wand (ha : PT3 X a tA) (hb : PW3 X (.BoolOp .And (b :: rest) pos) tB) : PW3 X (.BoolOp .And (a :: b :: rest) pos) (an3 tA tB) :=
  pw_imp (pw_and ha hb) fun _ _ _ ⟨σ3, H3, Q3, sr, hr, t, k⟩ => ⟨σ3, H3, _, sr, hr, t, fun c H3a Ha tka hra qa => by
    cases c with
    | true => exact ⟨σ3, H3a, Q3, sr.mono tka, hra, qa, k.mono tka⟩
    | false => exact k _ _ _ tka hra qa⟩
theorem p3_wor (ha : PT3 X a tA) (hb : PW3 X (.BoolOp .Or (b :: rest) pos) tB) : PW3 X (.BoolOp .Or (a :: b :: rest) pos) (or3 tA tB) :=
  pw_imp (pw_or ha hb) fun _ _ _ ⟨σ3, H3, Q3, sr, hr, t, k⟩ => ⟨σ3, H3, _, sr, hr, t, fun c H3a Ha tka hra qa => by
    cases c with
    | false => exact ⟨σ3, H3a, Q3, sr.mono tka, hra, qa, k.mono tka⟩
    | true => exact k _ _ _ tka hra qa⟩
theorem p3_tw (h : PW3 X e tA) : PT3 X e tA := h.pt
theorem p3_tnot (ha : PT3 X a tA) : PT3 X (.UnaryOp .Not a pos) (no3 tA) :=
  pt_imp (pt_not ha) fun _ _ _ ⟨σ3, H3, Q3, sr, hr, t, k⟩ => ⟨σ3, H3, _, sr, hr, t, fun c H3a Ha tka hra qa => k _ _ _ tka hra qa⟩
/-! the same as values -/
def av3 (ta tb : TE3) : TE3 := fun σ H Q => ta σ H fun x H1 => match x with
  | .bl c => if c = true then tb σ H1 Q else Q (.bl false) H1
  | _ => False
def ov3 (ta tb : TE3) : TE3 := fun σ H Q => ta σ H fun x H1 => match x with
  | .bl c => if c = true then Q (.bl true) H1 else tb σ H1 Q
  | _ => False
def nv3 (ta : TE3) : TE3 := fun σ H Q => ta σ H fun x H1 => match x with
  | .bl c => Q (.bl (!c)) H1
  | _ => False
theorem p3_one {op : BoolOp} (h : PE3 X a ta) : PE3 X (.BoolOp op [a] pos) ta := pe_one h
theorem p3_and (ha : PE3 X a ta) (hb : PE3 X (.BoolOp .And (b :: rest) pos) tb) : PE3 X (.BoolOp .And (a :: b :: rest) pos) (av3 ta tb) :=
  pe_imp (pe_and ha hb) fun _ _ _ ⟨σ3, H3, Q3, sr, hr, t, k⟩ => ⟨σ3, H3, _, sr, hr, t, fun x v H3a Ha tka hra rx qa => by
    cases rx with
    | bl c =>
      refine ⟨c, rfl, ?_⟩
      cases c with
      | true => exact ⟨σ3, H3a, Q3, sr.mono tka, hra, qa, k.mono tka⟩
      | false => exact k _ _ _ _ tka hra (.bl false) qa
    | _ => exact qa.elim⟩
theorem p3_or (ha : PE3 X a ta) (hb : PE3 X (.BoolOp .Or (b :: rest) pos) tb) : PE3 X (.BoolOp .Or (a :: b :: rest) pos) (ov3 ta tb) :=
  pe_imp (pe_or ha hb) fun _ _ _ ⟨σ3, H3, Q3, sr, hr, t, k⟩ => ⟨σ3, H3, _, sr, hr, t, fun x v H3a Ha tka hra rx qa => by
    cases rx with
    | bl c =>
      refine ⟨c, rfl, ?_⟩
      cases c with
      | false => exact ⟨σ3, H3a, Q3, sr.mono tka, hra, qa, k.mono tka⟩
      | true => exact k _ _ _ _ tka hra (.bl true) qa
    | _ => exact qa.elim⟩
theorem p3_not (ha : PE3 X a ta) : PE3 X (.UnaryOp .Not a pos) (nv3 ta) :=
  pe_imp (pe_not ha) fun _ _ _ ⟨σ3, H3, Q3, sr, hr, t, k⟩ => ⟨σ3, H3, _, sr, hr, t, fun x v H3a Ha tka hra rx qa => by
    cases rx with
    | bl c => exact ⟨c, rfl, k _ _ _ _ tka hra (.bl _) qa⟩
    | _ => exact qa.elim⟩
def if3 (t : TT3) (ta tb : TE3) : TE3 := fun σ H Q => t σ H fun c H1 => if c = true then ta σ H1 Q else tb σ H1 Q
theorem p3_if (hc : PT3 X c tA) (ha : PE3 X a ta) (hb : PE3 X b tb) : PE3 X (.IfExp c a b pos) (if3 tA ta tb) :=
  pe_imp (pe_ifExp hc ha hb) fun _ _ _ ⟨σ3, H3, Q3, sr, hr, t, k⟩ => ⟨σ3, H3, _, sr, hr, t, fun c H3a Ha tka hra qa => by
    cases c with
    | true => exact ⟨σ3, H3a, Q3, sr.mono tka, hra, qa, k.mono tka⟩
    | false => exact ⟨σ3, H3a, Q3, sr.mono tka, hra, qa, k.mono tka⟩⟩

/-! ### argument lists, tuples, lists -/
def nil3 : TA3 := fun _ H Q => Q [] H
def cons3 (ta : TE3) (tr : TA3) : TA3 := fun σ H Q => ta σ H fun x H1 => tr σ H1 fun xs H2 => Q (x :: xs) H2
theorem a3_nil : PA3 X [] nil3 := pa_imp pa_nil fun _ _ _ ⟨_, _, _, _, hr, t, k⟩ => k _ _ _ _ TK.refl hr .nil t
theorem a3_cons (ha : PE3 X e te) (hr : PA3 X es tr) (hs : starEach (e :: es) X.env = (false, eval e X.env) :: starEach es X.env := by rfl) : PA3 X (e :: es) (cons3 te tr) :=
  pa_imp (pa_cons ha hr hs) fun _ _ _ ⟨σ3, H3, Q3, sr, hr, t, k⟩ => ⟨σ3, H3, _, sr, hr, t, fun x v H3a Ha tka hra rx qa => ⟨σ3, H3a, _, sr.mono tka, hra, qa, fun ds vs H3b Hb tkb hrb rs qb =>
    k _ _ _ _ (tka.trans tkb) hrb (.cons (rx.mono tkb) rs) qb⟩⟩
def tp3 (t : TA3) : TE3 := fun σ H Q => t σ H fun ds H1 => ds.length ≤ 1000 ∧ Q (.tup ds) H1
def ls3 (t : TA3) : TE3 := fun σ H Q => t σ H fun ds H1 => ds.length ≤ 1000 ∧ ∀ p, H1 p = none → Q (.ref p) (upd3 H1 p (.lst ds))
theorem le_line {n : Nat} (h : n ≤ 1000) : n ≤ sizeLine := Nat.le_of_lt (small1000 h)
theorem p3_tup {x1 : Nat} (h : PA3 X es tr) : PE3 X (.Tuple es x1 pos) (tp3 tr) :=
  pe_imp (pe_tup h) fun _ _ _ ⟨σ3, H3, Q3, sr, hr, t, k⟩ => ⟨σ3, H3, _, sr, hr, t, fun ds vs H3a Ha tka hra rs qa =>
    ⟨by rw [← rs.length]; exact le_line qa.1, fun p n => k _ _ _ _ (tka.trans (TK.fresh n)) (hra.tup n) (.tup upd_same (rs.mono (TK.fresh n))) qa.2⟩⟩
theorem p3_lst (h : PA3 X es tr) : PE3 X (.List es pos) (ls3 tr) :=
  pe_imp (pe_lst h) fun _ _ _ ⟨σ3, H3, Q3, sr, hr, t, k⟩ => ⟨σ3, H3, _, sr, hr, t, fun ds vs H3a Ha tka hra rs qa =>
    ⟨by rw [← rs.length]; exact le_line qa.1, fun p n => k _ _ _ _ (tka.trans (TK.fresh n)) (hra.setL (TK.fresh n) (rs.mono (TK.fresh n))) (.ref p) (qa.2 p (hra.fresh n))⟩⟩
end

/-! ### operations -/
section
variable {X : Cx}
/-- the tuple lists that + and others want short -/
def r3add : R3 := fun x y H Q => match x, y with
  | .int i, .int j => Q (.int (i + j)) H
  | .str i, .str j => i.length + j.length ≤ sizeLine ∧ Q (.str (i ++ j)) H
  | .ref a, .ref b => (match H a, H b with
    | some (.lst xs), some (.lst ys) => xs.length + ys.length ≤ sizeLine ∧ ∀ p, H p = none → Q (.ref p) (upd3 H p (.lst (xs ++ ys)))
    | _, _ => False)
  | _, _ => False
theorem op3_add : OpR X (binaryOp .Add) (lift2 X.K r3add) := by
  intro pins s σ H x y v u Q I rx ry h
  obtain ⟨dx, dy, H3, Q3, hr, rdx, rdy, t, k⟩ := h
  cases rdx with
  | int i =>
    cases rdy with
    | int j => exact op_add pins s σ H _ _ v u Q I rx ry ⟨i, j, rfl, rfl, k _ _ _ _ TK.refl hr (.int _) t⟩
    | _ => exact t.elim
  | str i =>
    cases rdy with
    | str j => exact op_add_str pins s σ H _ _ v u Q I rx ry ⟨i, j, rfl, rfl, t.1, k _ _ _ _ TK.refl hr (.str _) t.2⟩
    | _ => exact t.elim
  | ref a =>
    cases rdy with
    | ref b =>
      simp only [r3add] at t
      split at t
      · rename_i xs ys ha hb
        obtain ⟨vs, ga, ra⟩ := hr a _ ha
        obtain ⟨us, gb, rb⟩ := hr b _ hb
        exact op_cat pins s σ H _ _ v u Q I rx ry ⟨a, b, vs, us, rfl, rfl, ga, gb, by rw [← ra.length, ← rb.length]; exact t.1, fun p n =>
          k _ _ _ _ (TK.fresh n) (hr.setL (TK.fresh n) ((ra.append rb).mono (TK.fresh n))) (.ref p) (t.2 p (hr.fresh n))⟩
      · exact t.elim
    | _ => exact t.elim
  | _ => exact t.elim
/-- two ints -/
def rI3 (C : Int → Int → Prop) (g : Int → Int → D) : R3 := fun x y H Q => match x, y with
  | .int i, .int j => C i j ∧ Q (g i j) H
  | _, _ => False
def rI30 (g : Int → Int → D) : R3 := fun x y H Q => match x, y with
  | .int i, .int j => Q (g i j) H
  | _, _ => False
theorem op3_of0 {f : Value → Value → Sem Value} {g : Int → Int → V} {g3 : Int → Int → D} (h : OpR X f (rI0 g)) (e : ∀ H i j, Rep X.K H (g3 i j) (g i j)) : OpR X f (lift2 X.K (rI30 g3)) := by
  intro pins s σ H x y v u Q I rx ry q
  obtain ⟨dx, dy, H3, Q3, hr, rdx, rdy, t, k⟩ := q
  cases rdx with
  | int i =>
    cases rdy with
    | int j => exact h pins s σ H _ _ v u Q I rx ry ⟨i, j, rfl, rfl, k _ _ _ _ TK.refl hr (e _ i j) t⟩
    | _ => exact t.elim
  | _ => exact t.elim
theorem op3_of {f : Value → Value → Sem Value} {C : Int → Int → Prop} {g : Int → Int → V} {g3 : Int → Int → D} (h : OpR X f (rI C g)) (e : ∀ H i j, Rep X.K H (g3 i j) (g i j)) : OpR X f (lift2 X.K (rI3 C g3)) := by
  intro pins s σ H x y v u Q I rx ry q
  obtain ⟨dx, dy, H3, Q3, hr, rdx, rdy, t, k⟩ := q
  cases rdx with
  | int i =>
    cases rdy with
    | int j => exact h pins s σ H _ _ v u Q I rx ry ⟨i, j, rfl, rfl, t.1, k _ _ _ _ TK.refl hr (e _ i j) t.2⟩
    | _ => exact t.elim
  | _ => exact t.elim
theorem op3_sub : OpR X (binaryOp .Sub) (lift2 X.K (rI30 fun i j => .int (i - j))) := op3_of0 op_sub fun _ _ _ => .int _
theorem op3_mul : OpR X (binaryOp .Mult) (lift2 X.K (rI3 CMul fun i j => .int (i * j))) := op3_of op_mul fun _ _ _ => .int _
theorem op3_fdiv : OpR X (binaryOp .FloorDiv) (lift2 X.K (rI3 CDiv fun i j => .int (i / j))) := op3_of op_fdiv fun _ _ _ => .int _
theorem op3_mod : OpR X (binaryOp .Mod) (lift2 X.K (rI3 (fun _ j => 0 < j) fun i j => .int (i % j))) := op3_of op_mod fun _ _ _ => .int _
theorem op3_pow : OpR X (binaryOp .Pow) (lift2 X.K (rI3 CPow fun i j => .int (i ^ j.toNat))) := op3_of op_pow fun _ _ _ => .int _
theorem op3_le : OpR X (compareOp .LtE) (lift2 X.K (rI30 fun i j => .bl (decide (i ≤ j)))) := op3_of0 op_le fun _ _ _ => .bl _
theorem op3_gt : OpR X (compareOp .Gt) (lift2 X.K (rI30 fun i j => .bl (decide (j < i)))) := op3_of0 op_gt fun _ _ _ => .bl _
theorem op3_ge : OpR X (compareOp .GtE) (lift2 X.K (rI30 fun i j => .bl (decide (j ≤ i)))) := op3_of0 op_ge fun _ _ _ => .bl _
/-- the ints of a tuple of ints -/
def intsOf : List D → Option (List Int)
  | [] => some []
  | .int i :: ds => (intsOf ds).map (i :: ·)
  | _ :: _ => none
theorem intsOf_inv : ∀ {ds : List D} {ns : List Int}, intsOf ds = some ns → ds = ns.map D.int
  | [], _, h => by simp only [intsOf, Option.some.injEq] at h; subst h; rfl
  | .int i :: ds, ns, h => by
    simp only [intsOf, Option.map_eq_some_iff] at h
    obtain ⟨ms, h1, h2⟩ := h
    subst h2
    rw [intsOf_inv h1]; rfl
  | .non :: _, _, h => by simp [intsOf] at h
  | .bl _ :: _, _, h => by simp [intsOf] at h
  | .str _ :: _, _, h => by simp [intsOf] at h
  | .tup _ :: _, _, h => by simp [intsOf] at h
  | .fl _ :: _, _, h => by simp [intsOf] at h
  | .ref _ :: _, _, h => by simp [intsOf] at h
  | .ty _ :: _, _, h => by simp [intsOf] at h
def r3lt : R3 := fun x y H Q => match x, y with
  | .int i, .int j => Q (.bl (decide (i < j))) H
  | .tup xs, .tup ys => (match intsOf xs, intsOf ys with
    | some ns, some ms => Q (.bl (HT.lexLt ns ms)) H
    | _, _ => False)
  | _, _ => False
theorem op3_lt (hu : X.A.units < cLine) : OpR X (compareOp .Lt) (lift2 X.K r3lt) := by
  intro pins s σ H x y v u Q I rx ry h
  obtain ⟨dx, dy, H3, Q3, hr, rdx, rdy, t, k⟩ := h
  cases rdx with
  | int i =>
    cases rdy with
    | int j => exact op_lt pins s σ H _ _ v u Q I rx ry ⟨i, j, rfl, rfl, k _ _ _ _ TK.refl hr (.bl _) t⟩
    | _ => exact t.elim
  | tup ha ra =>
    cases rdy with
    | tup hb rb =>
      simp only [r3lt] at t
      split at t
      · rename_i ns ms e1 e2
        have z1 := intsOf_inv e1
        have z2 := intsOf_inv e2
        subst z1; subst z2
        have w1 := ra.ints_inv
        have w2 := rb.ints_inv
        subst w1; subst w2
        exact op_ltT hu pins s σ H _ _ v u Q I rx ry ⟨_, _, ns, ms, rfl, rfl, SqT.of ha, SqT.of hb, k _ _ _ _ TK.refl hr (.bl _) t⟩
      · exact t.elim
    | _ => exact t.elim
  | _ => exact t.elim
def r3neg : D → Hp3 → VK3 → Prop := fun x H Q => match x with
  | .int i => Q (.int (-i)) H
  | _ => False
theorem un3_neg : UnR X (unaryOp .USub) (lift1 X.K r3neg) := by
  intro pins s σ H x v Q I rx h
  obtain ⟨dx, H3, Q3, hr, rdx, t, k⟩ := h
  cases rdx with
  | int i => exact un_neg pins s σ H _ v Q I rx ⟨i, rfl, k _ _ _ _ TK.refl hr (.int _) t⟩
  | _ => exact t.elim
/-! ### is None -/
def isN : D → Bool
  | .non => true
  | _ => false
def r3isN : R3 := fun x y H Q => match y with
  | .non => Q (.bl (isN x)) H
  | _ => False
def r3notN : R3 := fun x y H Q => match y with
  | .non => Q (.bl (!isN x)) H
  | _ => False
theorem isN_rep {K : PySem.W.Frag} {H : Hp} {d : D} {v : V} (r : Rep K H d v) : decide (v = .non) = isN d := by
  cases r with
  | non => rfl
  | _ => exact decide_eq_false (by intro z; cases z)
theorem op3_isN : OpR X (compareOp .Is) (lift2 X.K r3isN) := by
  intro pins s σ H x y v u Q I rx ry h
  obtain ⟨dx, dy, H3, Q3, hr, rdx, rdy, t, k⟩ := h
  cases rdy with
  | non => exact op_isN pins s σ H _ _ v u Q I rx ry ⟨rfl, by rw [isN_rep rdx]; exact k _ _ _ _ TK.refl hr (.bl _) t⟩
  | _ => exact t.elim
theorem op3_notN : OpR X (compareOp .IsNot) (lift2 X.K r3notN) := by
  intro pins s σ H x y v u Q I rx ry h
  obtain ⟨dx, dy, H3, Q3, hr, rdx, rdy, t, k⟩ := h
  cases rdy with
  | non => exact op_notN pins s σ H _ _ v u Q I rx ry ⟨rfl, by rw [isN_rep rdx]; exact k _ _ _ _ TK.refl hr (.bl _) t⟩
  | _ => exact t.elim

/-! ### subscripts -/
theorem atI_rep {K : PySem.W.Frag} {H : Hp} {ds : List D} {vs : List V} {i : Int} {d : D} (r : RepL K H ds vs) (h : atI ds i = some d) : ∃ v, atI vs i = some v ∧ Rep K H d v := by
  unfold atI at h ⊢
  rw [r.length] at h
  cases e : ixN vs.length i with
  | none => rw [e] at h; cases h
  | some j =>
    rw [e] at h
    exact r.get h
def r3ix : R3 := fun x y H Q => match x, y with
  | .tup ds, .int i => (match atI ds i with | some d => Q d H | none => False)
  | .fl ds, .int i => (match atI ds i with | some d => Q d H | none => False)
  | .str z, .int i => z.length ≤ sizeLine ∧ (match atI z.cps.toList i with | some c => Q (.str ⟨#[c]⟩) H | none => False)
  | .ref a, .int i => (match H a with
    | some (.lst ds) => (match atI ds i with | some d => Q d H | none => False)
    | _ => False)
  | _, _ => False
theorem ix3 : IxR X (lift2 X.K r3ix) := by
  intro value slice pins s σ H x y v u Q I rx ry h hs
  obtain ⟨dx, dy, H3, Q3, hr, rdx, rdy, t, k⟩ := h
  cases rdx with
  | tup ha ra =>
    cases rdy with
    | int i =>
      simp only [r3ix] at t
      split at t
      · rename_i d e
        obtain ⟨w, ew, rw'⟩ := atI_rep ra e
        exact ix_tup value slice pins s σ H _ _ v u Q I rx ry ⟨_, _, i, w, rfl, rfl, SqT.of ha, ew, k _ _ _ _ TK.refl hr rw' t⟩ hs
      · exact t.elim
    | _ => exact t.elim
  | fl ha ra =>
    cases rdy with
    | int i =>
      simp only [r3ix] at t
      split at t
      · rename_i d e
        obtain ⟨w, ew, rw'⟩ := atI_rep ra e
        exact ix_list value slice pins s σ H _ _ v u Q I rx ry ⟨_, _, i, w, rfl, rfl, ha.sq, ew, k _ _ _ _ TK.refl hr rw' t⟩ hs
      · exact t.elim
    | _ => exact t.elim
  | str z =>
    cases rdy with
    | int i =>
      simp only [r3ix] at t
      obtain ⟨hz, t⟩ := t
      split at t
      · rename_i c e
        exact ix_str value slice pins s σ H _ _ v u Q I rx ry ⟨z, i, c, rfl, rfl, hz, e, k _ _ _ _ TK.refl hr (.str _) t⟩ hs
      · exact t.elim
    | _ => exact t.elim
  | ref a =>
    cases rdy with
    | int i =>
      simp only [r3ix] at t
      split at t
      · rename_i ds ha
        obtain ⟨vs, ga, ra⟩ := hr a _ ha
        split at t
        · rename_i d e
          obtain ⟨w, ew, rw'⟩ := atI_rep ra e
          exact ix_list value slice pins s σ H _ _ v u Q I rx ry ⟨_, _, i, w, rfl, rfl, SqL.of ga, ew, k _ _ _ _ TK.refl hr rw' t⟩ hs
        · exact t.elim
      · exact t.elim
    | _ => exact t.elim
  | _ => exact t.elim

/-! ### slices -/
def cut3 {α : Type} (xs : List α) (lo hi : Option Int) : List α := (xs.drop (HT.sIx xs.length 0 lo)).take (HT.sIx xs.length xs.length hi - HT.sIx xs.length 0 lo)
theorem cut3_rep {K : PySem.W.Frag} {H : Hp} {ds : List D} {vs : List V} (r : RepL K H ds vs) (lo hi : Option Int) : RepL K H (cut3 ds lo hi) (cutV vs lo hi) := by
  unfold cut3 cutV
  rw [r.length]
  exact (r.drop _).take _
abbrev TO3 := St3 → Hp3 → (Option Int → Hp3 → Prop) → Prop
def liftO (K : PySem.W.Frag) (t : TO3) : TO := fun σ H Q => ∃ σ3 H3 Q3, SR K H σ3 σ ∧ HR K H3 H ∧ t σ3 H3 Q3 ∧ ∀ o H3' H', TK H H' → HR K H3' H' → Q3 o H3' → Q o H'
def PO3 (X : Cx) (e : Option Expr) (t : TO3) : Prop := PO X e (liftO X.K t)
theorem po_imp {e : Option Expr} {t t' : TO} (h : PO X e t) (i : ∀ σ H Q, t' σ H Q → t σ H Q) : PO X e t' := fun pins s σ H Q I hw => h pins s σ H Q I (i σ H Q hw)
def np3 : TO3 := fun _ H Q => Q none H
def pt3 (t : TE3) : TO3 := fun σ H Q => t σ H fun x H1 => match x with
  | .int i => Q (some i) H1
  | _ => False
theorem po3_none : PO3 X none np3 := po_imp po_none fun _ _ _ ⟨_, _, _, _, hr, t, k⟩ => k _ _ _ TK.refl hr t
theorem po3_some {e : Expr} {te : TE3} (h : PE3 X e te) : PO3 X (some e) (pt3 te) := po_imp (po_some h) fun _ _ _ ⟨σ3, H3, Q3, sr, hr, t, k⟩ =>
  ⟨σ3, H3, _, sr, hr, t, fun x v H3a Ha tka hra rx qa => by
    cases rx with
    | int i => exact ⟨i, rfl, k _ _ _ tka hra qa⟩
    | _ => exact qa.elim⟩
abbrev RSl := D → Option Int → Option Int → Hp3 → VK3 → Prop
def liftSl (K : PySem.W.Frag) (r : RSl) : V → Option Int → Option Int → Hp → VK → Prop := fun x lo hi H Q => ∃ d H3 Q3, HR K H3 H ∧ Rep K H d x ∧ r d lo hi H3 Q3 ∧ KE K H Q3 Q
def sl3 (r : RSl) (te : TE3) (tl th : TO3) : TE3 := fun σ H Q => te σ H fun x H1 => tl σ H1 fun l H2 => th σ H2 fun u H3 => r x l u H3 Q
theorem p3_slice {e : Expr} {te : TE3} {lo hi : Option Expr} {tl th : TO3} {pos p2 : Pos} {r : RSl} (hr : SlR X (liftSl X.K r)) (he : PE3 X e te) (hl : PO3 X lo tl) (hu : PO3 X hi th) : PE3 X (.Subscript e (.Slice lo hi none p2) pos) (sl3 r te tl th) :=
  pe_imp (pe_slice hr he hl hu) fun _ _ _ ⟨σ3, H3, Q3, sr, hr, t, k⟩ => ⟨σ3, H3, _, sr, hr, t, fun x v H3a Ha tka hra rx qa => ⟨σ3, H3a, _, sr.mono tka, hra, qa, fun l H3b Hb tkb hrb qb =>
    ⟨σ3, H3b, _, (sr.mono tka).mono tkb, hrb, qb, fun u H3c Hc tkc hrc qc => ⟨x, H3c, Q3, hrc, (rx.mono tkb).mono tkc, qc, k.mono ((tka.trans tkb).trans tkc)⟩⟩⟩⟩
def r3sl : RSl := fun x lo hi H Q => match x with
  | .fl ds => ∀ p, H p = none → Q (.ref p) (upd3 H p (.lst (cut3 ds lo hi)))
  | .ref a => (match H a with
    | some (.lst ds) => ∀ p, H p = none → Q (.ref p) (upd3 H p (.lst (cut3 ds lo hi)))
    | _ => False)
  | _ => False
theorem sl3_ok : SlR X (liftSl X.K r3sl) := by
  intro pins s σ H x v vl vu lo hi sl Q I rx hs pl pu h
  obtain ⟨d, H3, Q3, hr, rd, t, k⟩ := h
  have go : ∀ (a : Addr) (xs : List V) (ds : List D), x = .ref a → SqL X.K H a xs → RepL X.K H ds xs → (∀ p, H3 p = none → Q3 (.ref p) (upd3 H3 p (.lst (cut3 ds lo hi)))) →
      ∃ T id, typeLookup (.type T) "__getitem__" = pure (some (.builtin id)) ∧ s.TypeIs v T ∧ wpAny (model X.prog X.w) X.A (getItem v (.ref sl)) (EP X pins σ Q) X.xe s := fun a xs ds ex hq ra q =>
    sl_list pins s σ H x v vl vu lo hi sl Q I rx hs pl pu ⟨a, xs, ex, hq, fun p n =>
      k _ _ _ _ (TK.fresh n) (hr.setL (TK.fresh n) ((cut3_rep ra lo hi).mono (TK.fresh n))) (.ref p) (q p (hr.fresh n))⟩
  cases rd with
  | fl ha ra => exact go _ _ _ rfl ha.sq ra t
  | ref a =>
    simp only [r3sl] at t
    split at t
    · rename_i ds ha
      obtain ⟨vs, ga, ra⟩ := hr a _ ha
      exact go _ _ _ rfl (SqL.of ga) ra t
    · exact t.elim
  | _ => exact t.elim

/-! ### calls of built-ins -/
def cb3 (r : List D → Hp3 → VK3 → Prop) (t : TA3) : TE3 := fun σ H Q => t σ H fun ds H1 => r ds H1 Q
theorem lift_cb {K : PySem.W.Frag} {r : List D → Hp3 → VK3 → Prop} {t : TA3} {σ : St} {H : Hp} {Q : VK} (h : liftE K (cb3 r t) σ H Q) : tCB (liftC K r) (liftA K t) σ H Q := by
  obtain ⟨σ3, H3, Q3, sr, hr, t, k⟩ := h
  exact ⟨σ3, H3, _, sr, hr, t, fun ds vs H3a Ha tka hra rs qa => ⟨ds, H3a, Q3, hra, rs, qa, k.mono tka⟩⟩
theorem p3_callB {x : Str} {p pos : Pos} {e : Expr} {es : List Expr} {t : TA3} {id : String} {r : List D → Hp3 → VK3 → Prop} (hc : CallR X (.builtin id) (liftC X.K r)) (hg : Gl X x) (hm : X.mg x = none) (hv : bootBuiltins x = some (.builtin id)) (ha : PA3 X (e :: es) t)
    (hn : x ≠ "__name__" := by decide) (hdb : (x == ("__debug__" : Str)) = false := by decide)
    (he : starEach (e :: es) X.env = (false, eval e X.env) :: starEach es X.env := by rfl) (hpl : (backTo pos (starEach es X.env)).any (·.1) = false := by rfl) : PE3 X (.Call (.Name x p) (e :: es) [] pos) (cb3 r t) :=
  pe_imp (pe_callB hc hg hm hv ha hn hdb he hpl) fun _ _ _ h => lift_cb h
theorem p3_callTy {x : Str} {p pos : Pos} {e : Expr} {es : List Expr} {t : TA3} {T : String} {r : List D → Hp3 → VK3 → Prop} (hc : CallR X (.type T) (liftC X.K r)) (hg : Gl X x) (hm : X.mg x = none) (hv : bootBuiltins x = some (.type T)) (ha : PA3 X (e :: es) t)
    (hn : x ≠ "__name__" := by decide) (hdb : (x == ("__debug__" : Str)) = false := by decide)
    (he : starEach (e :: es) X.env = (false, eval e X.env) :: starEach es X.env := by rfl) (hpl : (backTo pos (starEach es X.env)).any (·.1) = false := by rfl) : PE3 X (.Call (.Name x p) (e :: es) [] pos) (cb3 r t) :=
  pe_imp (pe_callTy hc hg hm hv ha hn hdb he hpl) fun _ _ _ h => lift_cb h
def r3len : List D → Hp3 → VK3 → Prop := fun ds H Q => match ds with
  | [.tup xs] => Q (.int xs.length) H
  | [.fl xs] => Q (.int xs.length) H
  | [.str z] => z.length ≤ sizeLine ∧ Q (.int z.length) H
  | [.ref a] => (match H a with
    | some (.lst xs) => Q (.int xs.length) H
    | _ => False)
  | _ => False
theorem cb3_len : CallR X (.builtin "len") (liftC X.K r3len) := by
  intro pins s σ H xs us Q I rs h
  obtain ⟨ds, H3, Q3, hr, rd, t, k⟩ := h
  cases rd with
  | nil => exact t.elim
  | cons r1 r2 =>
    cases r2 with
    | cons _ _ => cases r1 <;> exact t.elim
    | nil =>
      cases r1 with
      | tup ha ra => exact call_len_seq pins s σ H _ us Q I rs ⟨_, _, rfl, .inr (SqT.of ha), by rw [← ra.length]; exact k _ _ _ _ TK.refl hr (.int _) t⟩
      | fl ha ra => exact call_len_seq pins s σ H _ us Q I rs ⟨_, _, rfl, .inl ha.sq, by rw [← ra.length]; exact k _ _ _ _ TK.refl hr (.int _) t⟩
      | str z => exact call_len_str pins s σ H _ us Q I rs ⟨_, rfl, t.1, k _ _ _ _ TK.refl hr (.int _) t.2⟩
      | ref a =>
        simp only [r3len] at t
        split at t
        · rename_i ds ha
          obtain ⟨vs, ga, ra⟩ := hr a _ ha
          exact call_len_seq pins s σ H _ us Q I rs ⟨_, _, rfl, .inl (SqL.of ga), by rw [← ra.length]; exact k _ _ _ _ TK.refl hr (.int _) t⟩
        · exact t.elim
      | _ => exact t.elim
def r3tuple : List D → Hp3 → VK3 → Prop := fun ds H Q => match ds with
  | [.tup xs] => Q (.tup xs) H
  | [.fl xs] => Q (.tup xs) H
  | [.ref a] => (match H a with
    | some (.lst xs) => Q (.tup xs) H
    | _ => False)
  | _ => False
theorem cb3_tuple : CallR X (.type "tuple") (liftC X.K r3tuple) := by
  intro pins s σ H xs us Q I rs h
  obtain ⟨ds, H3, Q3, hr, rd, t, k⟩ := h
  cases rd with
  | nil => exact t.elim
  | cons r1 r2 =>
    cases r2 with
    | cons _ _ => cases r1 <;> exact t.elim
    | nil =>
      cases r1 with
      | tup ha ra => exact call_tuple_of pins s σ H _ us Q I rs ⟨_, _, rfl, .inr ⟨SqT.of ha, k _ _ _ _ TK.refl hr (.tup ha ra) t⟩⟩
      | fl ha ra => exact call_tuple_of pins s σ H _ us Q I rs ⟨_, _, rfl, .inl ⟨ha.sq, fun l n => k _ _ _ _ (TK.fresh n) (hr.tup n) (.tup upd_same (ra.mono (TK.fresh n))) t⟩⟩
      | ref a =>
        simp only [r3tuple] at t
        split at t
        · rename_i ds ha
          obtain ⟨vs, ga, ra⟩ := hr a _ ha
          exact call_tuple_of pins s σ H _ us Q I rs ⟨_, _, rfl, .inl ⟨SqL.of ga, fun l n => k _ _ _ _ (TK.fresh n) (hr.tup n) (.tup upd_same (ra.mono (TK.fresh n))) t⟩⟩
        · exact t.elim
      | _ => exact t.elim
def r3list : List D → Hp3 → VK3 → Prop := fun ds H Q => match ds with
  | [.tup xs] => ∀ p, H p = none → Q (.ref p) (upd3 H p (.lst xs))
  | [.fl xs] => ∀ p, H p = none → Q (.ref p) (upd3 H p (.lst xs))
  | [.ref a] => (match H a with
    | some (.lst xs) => ∀ p, H p = none → Q (.ref p) (upd3 H p (.lst xs))
    | _ => False)
  | _ => False
theorem cb3_list : CallR X (.type "list") (liftC X.K r3list) := by
  intro pins s σ H xs us Q I rs h
  obtain ⟨ds, H3, Q3, hr, rd, t, k⟩ := h
  have fin : ∀ {ds : List D} {vs : List V}, RepL X.K H ds vs → (∀ p, H3 p = none → Q3 (.ref p) (upd3 H3 p (.lst ds))) → ∀ l, H l = none → Q (.ref l) (upd H l (.lst vs)) := fun ra q l n =>
    k _ _ _ _ (TK.fresh n) (hr.setL (TK.fresh n) (ra.mono (TK.fresh n))) (.ref l) (q l (hr.fresh n))
  cases rd with
  | nil => exact t.elim
  | cons r1 r2 =>
    cases r2 with
    | cons _ _ => cases r1 <;> exact t.elim
    | nil =>
      cases r1 with
      | tup ha ra => exact call_list_of pins s σ H _ us Q I rs ⟨_, _, rfl, .inr (SqT.of ha), fin ra t⟩
      | fl ha ra => exact call_list_of pins s σ H _ us Q I rs ⟨_, _, rfl, .inl ha.sq, fin ra t⟩
      | ref a =>
        simp only [r3list] at t
        split at t
        · rename_i ds ha
          obtain ⟨vs, ga, ra⟩ := hr a _ ha
          exact call_list_of pins s σ H _ us Q I rs ⟨_, _, rfl, .inl (SqL.of ga), fin ra t⟩
        · exact t.elim
      | _ => exact t.elim
end
end L3

namespace L3
open PySem PySem.Spec PyProof.Rows L2
/-! ### ranges of any numbers -/
theorem turn_long {P : Program} {w : World} {K : PySem.W.Frag} {tg : Expr} (it : Addr) (lo : Int) (n : Nat) : Turn P w K tg (Itr lo n) [it] it (fun i h => IsLongIter h it (lo + (i : Nat) * 1) ((n : Int) - (i : Nat)) 1) where
  mem := List.mem_singleton.mpr rfl
  obj := fun i h st b hb => by
    rw [List.mem_singleton.mp hb]
    exact ⟨_, st, fun v z => by have z' : Data.fields _ = Data.cell v := z; cases z'⟩
  keep := fun i h h' st k => k it (List.mem_singleton.mpr rfl) _ st
  item := by
    intro X hP hw hK hc i pins s σ H E I hf st hg
    subst hP hw hK
    obtain ⟨f0, f1, f2, f3, f4, f5⟩ := hf it (List.mem_singleton.mpr rfl)
    have hlt : i < n := hg
    refine wpAny_pyNext_long_item st (by omega) fun h' st' sb => ?_
    have I1 : Inv X pins σ H { s with heap := h', toks := s.toks + 1 } := I.turned (fun b o hb e => (sb.2 b hb).trans e) f0 f1 f3 f4 f5
    have st2 : IsLongIter h' it (lo + ((i + 1 : Nat) : Int) * 1) ((n : Int) - ((i + 1 : Nat) : Int)) 1 := by
      have e1 : lo + (i : Int) * 1 + 1 = lo + ((i + 1 : Nat) : Int) * 1 := by omega
      have e2 : (n : Int) - (i : Int) - 1 = (n : Int) - ((i + 1 : Nat) : Int) := by omega
      rw [← e1, ← e2]; exact st'
    exact ⟨_, rfl, go_of (s := { s with heap := h', toks := s.toks + 1 }) (n := "longrange_iterator") st2 rfl rfl (by decide) ⟨.int (lo + i), H, I1, ⟨s.toks, by rw [Int.mul_one]⟩, ⟨rfl, rfl⟩, st2, fun b hb => (hf b hb).1⟩⟩
  done := by
    intro X hP hw hK hc i pins s σ H E I hf st hg
    subst hP hw hK
    obtain ⟨f0, f1, f2, f3, f4, f5⟩ := hf it (List.mem_singleton.mpr rfl)
    have hle : n ≤ i := hg
    exact wpAny_pyNext_long_end (I.ok.hd hc) st (by omega) fun h' eb => ⟨rfl, I.turned (t' := s.toks) (fun b o hb e => eb b o hb e) f0 f1 f3 f4 f5⟩
  self := fun _ _ _ _ _ st h => wpAny_pyIter_longiter st h
section
variable {X : Cx} {tg : Expr}
theorem range_any {pins : List (Addr × Obj)} {σ : St} {H : Hp} {s : Shared} {R : It → Hp → Prop} {E : Value → Shared → Prop} {lo hi : Int} {t u v : Tok} {tk : Nat} (I : Inv X pins σ H s) (q : R (Itr lo (hi - lo).toNat) H) :
    wpAny (model X.prog X.w) X.A (pyIter (.ref s.heap.objs.size)) (PIE X pins σ tg R) E { s with heap := s.heap.push { cls := .type "range", data := .fields #[.int lo t, .int hi u, .int 1 v] }, toks := tk } := by
  have I1 : Inv X pins σ H { s with heap := s.heap.push { cls := .type "range", data := .fields #[.int lo t, .int hi u, .int 1 v] }, toks := tk } := I.kept fun b o e => Heap.get?_push_of_some _ e
  have e2 : (((hi - lo).toNat : Nat) : Int) - ((0 : Nat) : Int) = Builtin.Range.rangeSize lo hi 1 := by rw [rangeSize_one]; split <;> omega
  have e1 : lo + ((0 : Nat) : Int) * 1 = lo := by omega
  have hf : ∀ b ∈ [(s.heap.push { cls := .type "range", data := .fields #[.int lo t, .int hi u, .int 1 v] }).objs.size], FpOk X pins H b := fun b hb => by
    rw [List.mem_singleton.mp hb]
    exact I1.fpOk (Nat.le_refl _) (I1.hok.fresh (Nat.le_refl _))
  cases hs : Builtin.Range.small lo hi 1 with
  | true =>
    refine wpAny_pyIter_range (IsRange.new ..) hs ⟨_, _, _, _, H, rfl, I1.kept (t' := tk) fun b o e => Heap.get?_push_of_some _ e, turn_range _ lo (hi - lo).toNat, ?_, hf, q⟩
    show IsRangeIter _ _ (lo + ((0 : Nat) : Int) * 1) ((((hi - lo).toNat : Nat) : Int) - ((0 : Nat) : Int)) 1
    rw [e1, e2]
    exact Heap.get?_push_size _ rfl
  | false =>
    refine wpAny_pyIter_longrange (IsRange.new ..) hs ⟨_, _, _, _, H, rfl, I1.kept (t' := tk) fun b o e => Heap.get?_push_of_some _ e, turn_long _ lo (hi - lo).toNat, ?_, hf, q⟩
    show IsLongIter _ _ (lo + ((0 : Nat) : Int) * 1) ((((hi - lo).toNat : Nat) : Int) - ((0 : Nat) : Int)) 1
    rw [e1, e2]
    exact Heap.get?_push_size _ rfl
def jRng1 (ta : TA) : TI := fun σ H R => ta σ H fun vs H1 => ∃ j : Int, vs = [.int j] ∧ R (Itr 0 j.toNat) H1
def jRng2 (ta : TA) : TI := fun σ H R => ta σ H fun vs H1 => ∃ i j : Int, vs = [.int i, .int j] ∧ R (Itr i (j - i).toNat) H1
theorem pj_range1 {a : Expr} {ta : TA} {p pos : Pos} (hg : Gl X "range") (hm : X.mg "range" = none) (ha : PA X [a] ta) (hs : starEach [a] X.env = [(false, eval a X.env)] := by rfl) : PI X tg (.Call (.Name "range" p) [a] [] pos) (jRng1 ta) := by
  intro pins s σ H R I h
  refine Call_ (ld_blt I hg hm boot_range (PyProof.Rows.callWith_type1 (thn (ha pos pins s σ H _ I h) fun us s1 ⟨vs, H1, I1, r1, j, e, q⟩ => ?_) hs rfl))
  subst e
  obtain ⟨u, rfl, t, rfl⟩ := vals1 r1
  exact call_range_1 (range_any I1 (by simpa using q))
theorem pj_range2 {a b : Expr} {ta : TA} {p pos : Pos} (hg : Gl X "range") (hm : X.mg "range" = none) (ha : PA X [a, b] ta) (hs : starEach [a, b] X.env = [(false, eval a X.env), (false, eval b X.env)] := by rfl) (hs2 : starEach [b] X.env = [(false, eval b X.env)] := by rfl) :
    PI X tg (.Call (.Name "range" p) [a, b] [] pos) (jRng2 ta) := by
  intro pins s σ H R I h
  refine Call_ (ld_blt I hg hm boot_range (PyProof.Rows.callWith_type1 (thn (ha pos pins s σ H _ I h) fun us s1 ⟨vs, H1, I1, r1, i, j, e, q⟩ => ?_) (by rw [hs, hs2]) (by rw [hs2]; rfl)))
  subst e
  obtain ⟨u, u', rfl, ⟨t, rfl⟩, ⟨t', rfl⟩⟩ := vals2 r1
  exact call_range_2 (range_any I1 q)
end
end L3

namespace L3
open PySem PySem.Spec PyProof.Rows L2
section
variable {X : Cx} {st : Stmt} {rest : List Stmt} {t u : TS3} {e : Expr} {te : TE3} {pos : Pos}
/-! ### statements -/
def nx3 : TS3 := fun D σ H => D.nx σ H
def sq3 (t u : TS3) : TS3 := fun D σ H => t { D with nx := u D } σ H
theorem s3_nil : PSs3 X [] nx3 := pss_imp pss_nil fun _ _ _ ⟨_, _, _, sr, hr, t, k⟩ => k.nx _ _ _ _ TK.refl sr hr t
theorem s3_cons (h1 : PS3 X st t) (h2 : PSs3 X rest u) : PSs3 X (st :: rest) (sq3 t u) :=
  pss_imp (pss_cons h1 h2) fun _ _ _ ⟨σ3, H3, D3, sr, hr, q, k⟩ => ⟨σ3, H3, { D3 with nx := u D3 }, sr, hr, q,
    ⟨fun σ3' σ' H3' H' tk sr' hr' q' => ⟨σ3', H3', D3, sr', hr', q', k.mono tk⟩, k.rt, k.bk, k.ct⟩⟩
theorem s3_one (h1 : PS3 X st t) : PSs3 X [st] t := pss_one h1
theorem s3_pass : PS3 X (.Pass pos) nx3 := ps_imp ps_pass fun _ _ _ ⟨_, _, _, sr, hr, t, k⟩ => k.nx _ _ _ _ TK.refl sr hr t
def br3 : TS3 := fun D σ H => D.bk σ H
def co3 : TS3 := fun D σ H => D.ct σ H
theorem s3_break : PS3 X (.Break pos) br3 := ps_imp ps_break fun _ _ _ ⟨_, _, _, sr, hr, t, k⟩ => k.bk _ _ _ _ TK.refl sr hr t
theorem s3_continue : PS3 X (.Continue pos) co3 := ps_imp ps_continue fun _ _ _ ⟨_, _, _, sr, hr, t, k⟩ => k.ct _ _ _ _ TK.refl sr hr t
def dr3 (te : TE3) : TS3 := fun D σ H => te σ H fun _ H1 => D.nx σ H1
theorem s3_expr (he : PE3 X e te) (hs : swapsWith e none pos.line X.env = pure false := by rfl) : PS3 X (.Expr e pos) (dr3 te) :=
  ps_imp (ps_expr he hs) fun _ _ _ ⟨σ3, H3, D3, sr, hr, t, k⟩ => ⟨σ3, H3, _, sr, hr, t, fun x v H3a Ha tka hra rx qa => k.nx _ _ _ _ tka (sr.mono tka) hra qa⟩
def rt3 (te : TE3) : TS3 := fun D σ H => te σ H D.rt
theorem s3_ret (he : PE3 X e te) : PS3 X (.Return (some e) pos) (rt3 te) :=
  ps_imp (ps_ret he) fun _ _ _ ⟨σ3, H3, D3, sr, hr, t, k⟩ => ⟨σ3, H3, _, sr, hr, t, k.rt⟩
def rn3 : TS3 := fun D _ H => D.rt .non H
theorem s3_retN : PS3 X (.Return none pos) rn3 := ps_imp ps_retN fun _ _ _ ⟨_, _, _, _, hr, t, k⟩ => k.rt _ _ _ _ TK.refl hr .non t
def is3 (c : TT3) (t u : TS3) : TS3 := fun D σ H => c σ H fun b H1 => if b = true then t D σ H1 else u D σ H1
theorem s3_if {c : Expr} {a b : List Stmt} {tc : TT3} (hc : PT3 X c tc) (ha : PSs3 X a t) (hb : PSs3 X b u) : PS3 X (.If c a b pos) (is3 tc t u) :=
  ps_imp (ps_if hc ha hb) fun _ _ _ ⟨σ3, H3, D3, sr, hr, q, k⟩ => ⟨σ3, H3, _, sr, hr, q, fun b H3a Ha tka hra qa => by
    cases b with
    | true => exact ⟨σ3, H3a, D3, sr.mono tka, hra, qa, k.mono tka⟩
    | false => exact ⟨σ3, H3a, D3, sr.mono tka, hra, qa, k.mono tka⟩⟩
def st3 (i : Nat) (te : TE3) : TS3 := fun D σ H => te σ H fun x H1 => D.nx (σ.set i (some x)) H1
theorem s3_set (i : Nat) {x : Str} {pos' : Pos} (hN : X.N.Nodup) (he : PE3 X e te) (hi : X.N[i]? = some x := by rfl) (hx : Loc X.env.scope x := by first | exact Or.inl rfl | exact Or.inr rfl) (hs : swapsWith e (some (.Name x pos')) pos.line X.env = pure false := by rfl)
    (hf : X.fn x = true ∨ X.env.scope.names.lookup x = some .local := by first | exact .inl rfl | exact .inr rfl | assumption) : PS3 X (.Assign [.Name x pos'] e pos) (st3 i te) :=
  ps_imp (ps_set hN hi hx he hs hf) fun _ _ _ ⟨σ3, H3, D3, sr, hr, t, k⟩ => ⟨σ3, H3, _, sr, hr, t, fun x v H3a Ha tka hra rx qa => k.nx _ _ _ _ tka ((sr.mono tka).set i rx) hra qa⟩

/-! ### targets -/
abbrev TG3 := D → St3 → Hp3 → (St3 → Hp3 → Prop) → Prop
def liftG (K : PySem.W.Frag) (t : TG3) : TG := fun v σ H Q => ∃ d σ3 H3 Q3, Rep K H d v ∧ SR K H σ3 σ ∧ HR K H3 H ∧ t d σ3 H3 Q3 ∧ KN K H Q3 Q
def PG3 (X : Cx) (tg : Expr) (t : TG3) : Prop := PG X tg (liftG X.K t)
theorem pg_imp {tg : Expr} {t t' : TG} (h : PG X tg t) (i : ∀ v σ H Q, t' v σ H Q → t v σ H Q) : PG X tg t' := fun pins s σ H v u Q I r hw => h pins s σ H v u Q I r (i v σ H Q hw)
def gn3 (i : Nat) : TG3 := fun d σ H Q => Q (σ.set i (some d)) H
theorem g3_name (i : Nat) {x : Str} (hN : X.N.Nodup) (hi : X.N[i]? = some x := by rfl) (hx : Loc X.env.scope x := by first | exact Or.inl rfl | exact Or.inr rfl) (hf : X.fn x = true ∨ X.env.scope.names.lookup x = some .local := by first | exact .inl rfl | exact .inr rfl | assumption) :
    PG3 X (.Name x pos) (gn3 i) := pg_imp (pg_name hN hi hx hf) fun _ _ _ _ ⟨d, σ3, H3, Q3, rd, sr, hr, t, k⟩ => k _ _ _ _ TK.refl (sr.set i rd) hr t
def g2_3 (i j : Nat) : TG3 := fun d σ H Q => match d with
  | .tup [x, y] => Q ((σ.set i (some x)).set j (some y)) H
  | _ => False
def g3_3 (i j l : Nat) : TG3 := fun d σ H Q => match d with
  | .tup [x, y, z] => Q (((σ.set i (some x)).set j (some y)).set l (some z)) H
  | _ => False
theorem g3_pair (i j : Nat) {x y : Str} {p1 p2 : Pos} {kk : Nat} (hc : X.calm = true) (hN : X.N.Nodup) (hi : X.N[i]? = some x := by rfl) (hx : Loc X.env.scope x := by first | exact Or.inl rfl | exact Or.inr rfl) (hj : X.N[j]? = some y := by rfl) (hy : Loc X.env.scope y := by first | exact Or.inl rfl | exact Or.inr rfl)
    (hf : X.fn x = true ∨ X.env.scope.names.lookup x = some .local := by first | exact .inl rfl | exact .inr rfl | assumption) (hf' : X.fn y = true ∨ X.env.scope.names.lookup y = some .local := by first | exact .inl rfl | exact .inr rfl | assumption) :
    PG3 X (.Tuple [.Name x p1, .Name y p2] kk pos) (g2_3 i j) :=
  pg_imp (pg_tup (n := 2) hc (pgs_cons (pg_name hN hi hx hf) (pgs_cons (pg_name hN hj hy hf') pgs_nil))) fun v σ H Q ⟨d, σ3, H3, Q3, rd, sr, hr, t, k⟩ => by
    cases rd with
    | tup ha ra =>
      cases ra with
      | nil => exact t.elim
      | cons r1 ra =>
        cases ra with
        | nil => exact t.elim
        | cons r2 ra =>
          cases ra with
          | cons _ _ => exact t.elim
          | nil => exact ⟨_, _, rfl, SqT.of ha, rfl, _, _, rfl, _, _, rfl, rfl, k _ _ _ _ TK.refl ((sr.set i r1).set j r2) hr t⟩
    | _ => exact t.elim
theorem g3_three (i j l : Nat) {x y z : Str} {p1 p2 p3 : Pos} {kk : Nat} (hc : X.calm = true) (hN : X.N.Nodup) (hi : X.N[i]? = some x := by rfl) (hx : Loc X.env.scope x := by first | exact Or.inl rfl | exact Or.inr rfl) (hj : X.N[j]? = some y := by rfl) (hy : Loc X.env.scope y := by first | exact Or.inl rfl | exact Or.inr rfl)
    (hl : X.N[l]? = some z := by rfl) (hz : Loc X.env.scope z := by first | exact Or.inl rfl | exact Or.inr rfl)
    (hf : X.fn x = true ∨ X.env.scope.names.lookup x = some .local := by first | exact .inl rfl | exact .inr rfl | assumption) (hf' : X.fn y = true ∨ X.env.scope.names.lookup y = some .local := by first | exact .inl rfl | exact .inr rfl | assumption)
    (hf'' : X.fn z = true ∨ X.env.scope.names.lookup z = some .local := by first | exact .inl rfl | exact .inr rfl | assumption) :
    PG3 X (.Tuple [.Name x p1, .Name y p2, .Name z p3] kk pos) (g3_3 i j l) :=
  pg_imp (pg_tup (n := 3) hc (pgs_cons (pg_name hN hi hx hf) (pgs_cons (pg_name hN hj hy hf') (pgs_cons (pg_name hN hl hz hf'') pgs_nil)))) fun v σ H Q ⟨d, σ3, H3, Q3, rd, sr, hr, t, k⟩ => by
    cases rd with
    | tup ha ra =>
      cases ra with
      | nil => exact t.elim
      | cons r1 ra =>
        cases ra with
        | nil => exact t.elim
        | cons r2 ra =>
          cases ra with
          | nil => exact t.elim
          | cons r3 ra =>
            cases ra with
            | cons _ _ => exact t.elim
            | nil => exact ⟨_, _, rfl, SqT.of ha, rfl, _, _, rfl, _, _, rfl, _, _, rfl, rfl, k _ _ _ _ TK.refl (((sr.set i r1).set j r2).set l r3) hr t⟩
    | _ => exact t.elim
def as3 (te : TE3) (g : TG3) : TS3 := fun D σ H => te σ H fun x H1 => g x σ H1 D.nx
theorem s3_asg {tg : Expr} {g : TG3} (he : PE3 X e te) (hg : PG3 X tg g) (hs : swapsWithSole [tg] e pos.line X.env = pure false := by rfl) (hw : swappedStores [tg] e X.env = pure none := by rfl)
    (h1 : (assignEach [tg] X.env).map (·.2) = [assign tg X.env] := by rfl) : PS3 X (.Assign [tg] e pos) (as3 te g) :=
  ps_imp (ps_asg he hg hs hw h1) fun _ _ _ ⟨σ3, H3, D3, sr, hr, t, k⟩ => ⟨σ3, H3, _, sr, hr, t, fun x v H3a Ha tka hra rx qa => ⟨x, σ3, H3a, _, rx, sr.mono tka, hra, qa, k.nx.mono tka⟩⟩

/-! ### while -/
def wh3 (c : TT3) (tb : TS3) : TS3 := fun D σ H => ∃ (P : St3 → Hp3 → Prop) (μ : St3 → Hp3 → Nat), P σ H ∧ ∀ σ H, P σ H →
  c σ H fun b H1 => if b = true then tb { D with nx := fun σ' H' => P σ' H' ∧ μ σ' H' < μ σ H, ct := fun σ' H' => P σ' H' ∧ μ σ' H' < μ σ H, bk := D.nx } σ H1 else D.nx σ H1
theorem s3_while {c : Expr} {body : List Stmt} {tc : TT3} {tb : TS3} (hp : PassesOwn (model X.prog X.w) X.A X.env X.xe) (hc : PT3 X c tc) (hb : PSs3 X body tb) : PS3 X (.While c body [] pos) (wh3 tc tb) :=
  ps_imp (ps_while hp hc hb) fun D σ H ⟨σ3, H3, D3, sr, hr, t, k⟩ => by
    obtain ⟨P, μ, p0, turn⟩ := t
    refine ⟨fun m σ' H' => ∃ σ3' H3', TK H H' ∧ SR X.K H' σ3' σ' ∧ HR X.K H3' H' ∧ P σ3' H3' ∧ m = μ σ3' H3', ⟨_, σ3, H3, TK.refl, sr, hr, p0, rfl⟩, ?_⟩
    rintro m σ1 H1 ⟨σ31, H31, tk1, sr1, hr1, p1, rfl⟩
    refine ⟨σ31, H31, _, sr1, hr1, turn σ31 H31 p1, fun b H3a Ha tka hra qa => ?_⟩
    cases b with
    | false => exact k.nx _ _ _ _ (tk1.trans tka) (sr1.mono tka) hra qa
    | true =>
      refine ⟨fun σ' H' => ∃ σ3' H3', TK H H' ∧ SR X.K H' σ3' σ' ∧ HR X.K H3' H' ∧ P σ3' H3' ∧ μ σ3' H3' < μ σ31 H31, ?_, ?_⟩
      · rintro σ' H' ⟨σ3', H3', z1, z2, z3, z4, z5⟩
        exact ⟨_, z5, σ3', H3', z1, z2, z3, z4, rfl⟩
      · have kk := k.mono (tk1.trans tka)
        exact ⟨σ31, H3a, _, sr1.mono tka, hra, qa, ⟨fun σ3' σ' H3' H' tk' sr' hr' q' => ⟨σ3', H3', (tk1.trans tka).trans tk', sr', hr', q'.1, q'.2⟩, kk.rt, kk.nx,
          fun σ3' σ' H3' H' tk' sr' hr' q' => ⟨σ3', H3', (tk1.trans tka).trans tk', sr', hr', q'.1, q'.2⟩⟩⟩

/-! ### for -/
/-- what is walked: its items, and what must stay for it -/
abbrev TI3 := St3 → Hp3 → (List D → (Hp3 → Prop) → Hp3 → Prop) → Prop
def ItOk (K : PySem.W.Frag) (H0 : Hp) (ds : List D) (keep : Hp3 → Prop) (J : It) : Prop :=
  ∀ H3 H, TK H0 H → HR K H3 H → keep H3 → (∀ i, i < ds.length → J.go i H ∧ ∀ x H', J.yld i H x H' → H' = H ∧ ∃ d, ds[i]? = some d ∧ Rep K H d x) ∧ J.stop ds.length H
def liftI (K : PySem.W.Frag) (t : TI3) : TI := fun σ H R => ∃ σ3 H3 R3, SR K H σ3 σ ∧ HR K H3 H ∧ t σ3 H3 R3 ∧
  ∀ ds keep J H3' H', TK H H' → HR K H3' H' → ItOk K H' ds keep J → R3 ds keep H3' → R J H'
def PI3 (X : Cx) (tg iter : Expr) (t : TI3) : Prop := PI X tg iter (liftI X.K t)
theorem pi_imp {tg iter : Expr} {t t' : TI} (h : PI X tg iter t) (i : ∀ σ H R, t' σ H R → t σ H R) : PI X tg iter t' := fun pins s σ H R I hw => h pins s σ H R I (i σ H R hw)
/-- a list's items -/
def il3 (te : TE3) : TI3 := fun σ H R => te σ H fun x H1 => match x with
  | .ref a => (match H1 a with
    | some (.lst ds) => R ds (fun H' => H' a = some (.lst ds)) H1
    | _ => False)
  | .fl ds => R ds (fun _ => True) H1
  | _ => False
/-- a tuple's items -/
def it3 (te : TE3) : TI3 := fun σ H R => te σ H fun x H1 => match x with
  | .tup ds => R ds (fun _ => True) H1
  | _ => False
theorem itOk_list {K : PySem.W.Frag} {H : Hp} {a : Addr} {ds : List D} : ItOk K H ds (fun H' => H' a = some (.lst ds)) (Itl K a) := fun H3 H' _ hr hk => by
  obtain ⟨vs, ga, ra⟩ := hr a _ hk
  refine ⟨fun i hi => ⟨⟨vs, vs[i]'(by rw [← ra.length]; exact hi), SqL.of ga, by simp⟩, fun x H'' y => ?_⟩, ⟨vs, SqL.of ga, by rw [ra.length]; exact Nat.le_refl _⟩⟩
  obtain ⟨e, y⟩ := y
  exact ⟨e, ra.getV (y vs (SqL.of ga))⟩
theorem itOk_fl {K : PySem.W.Frag} {H : Hp} {a : Addr} {xs : List V} {ds : List D} (ha : FzL K H a xs) (ra : RepL K H ds xs) : ItOk K H ds (fun _ => True) (Itl K a) := fun H3 H' tk hr _ => by
  have hq := (tk.fzL ha).sq
  have ra' := ra.mono tk
  refine ⟨fun i hi => ⟨⟨xs, xs[i]'(by rw [← ra.length]; exact hi), hq, by simp⟩, fun x H'' y => ?_⟩, ⟨xs, hq, by rw [ra.length]; exact Nat.le_refl _⟩⟩
  obtain ⟨e, y⟩ := y
  exact ⟨e, ra'.getV (y xs hq)⟩
theorem itOk_tup {K : PySem.W.Frag} {H : Hp} {a : Addr} {xs : List V} {ds : List D} (ha : SqT K H a xs) (ra : RepL K H ds xs) : ItOk K H ds (fun _ => True) (Itt K a) := fun H3 H' tk hr _ => by
  have hq := tk.sqT ha
  have ra' := ra.mono tk
  refine ⟨fun i hi => ⟨⟨xs, xs[i]'(by rw [← ra.length]; exact hi), hq, by simp⟩, fun x H'' y => ?_⟩, ⟨xs, hq, by rw [ra.length]; exact Nat.le_refl _⟩⟩
  obtain ⟨e, y⟩ := y
  exact ⟨e, ra'.getV (y xs hq)⟩
theorem i3_list {tg : Expr} (h : PE3 X e te) : PI3 X tg e (il3 te) :=
  pi_imp (pi_list h) fun _ _ _ ⟨σ3, H3, R3, sr, hr, t, k⟩ => ⟨σ3, H3, _, sr, hr, t, fun x v H3a Ha tka hra rx qa => by
    cases rx with
    | ref a =>
      simp only [] at qa
      split at qa
      · rename_i ds ha
        obtain ⟨vs, ga, ra⟩ := hra a _ ha
        exact ⟨a, rfl, ⟨vs, SqL.of ga⟩, k _ _ _ _ _ tka hra itOk_list qa⟩
      · exact qa.elim
    | fl ha ra => exact ⟨_, rfl, ⟨_, ha.sq⟩, k _ _ _ _ _ tka hra (itOk_fl ha ra) qa⟩
    | _ => exact qa.elim⟩
theorem i3_tup {tg : Expr} (h : PE3 X e te) : PI3 X tg e (it3 te) :=
  pi_imp (pi_tup h) fun _ _ _ ⟨σ3, H3, R3, sr, hr, t, k⟩ => ⟨σ3, H3, _, sr, hr, t, fun x v H3a Ha tka hra rx qa => by
    cases rx with
    | tup ha ra => exact ⟨_, rfl, ⟨_, SqT.of ha⟩, k _ _ _ _ _ tka hra (itOk_tup (SqT.of ha) ra) qa⟩
    | _ => exact qa.elim⟩
/-- the ints lo, lo + 1, .., n of them -/
def rng (lo : Int) (n : Nat) : List D := (List.range n).map fun (i : Nat) => D.int (lo + (i : Int))
theorem rng_len (lo : Int) (n : Nat) : (rng lo n).length = n := by simp [rng]
theorem rng_get {lo : Int} {n i : Nat} (h : i < n) : (rng lo n)[i]? = some (.int (lo + i)) := by simp [rng, h]
theorem itOk_rng {K : PySem.W.Frag} {H : Hp} {lo : Int} {n : Nat} : ItOk K H (rng lo n) (fun _ => True) (Itr lo n) := fun H3 H' tk hr _ => by
  refine ⟨fun i hi => ?_, ?_⟩
  · rw [rng_len] at hi
    refine ⟨hi, fun x H'' y => ?_⟩
    obtain ⟨e, y⟩ := y
    subst y
    exact ⟨e, _, rng_get hi, .int _⟩
  · rw [rng_len]; exact Nat.le_refl _
def rg1 (x : D) (H : Hp3) (R : List D → (Hp3 → Prop) → Hp3 → Prop) : Prop := match x with
  | .int j => R (rng 0 j.toNat) (fun _ => True) H
  | _ => False
def rg2 (x y : D) (H : Hp3) (R : List D → (Hp3 → Prop) → Hp3 → Prop) : Prop := match x, y with
  | .int i, .int j => R (rng i (j - i).toNat) (fun _ => True) H
  | _, _ => False
def ir1 (ta : TE3) : TI3 := fun σ H R => ta σ H fun x H1 => rg1 x H1 R
def ir2 (ta tb : TE3) : TI3 := fun σ H R => ta σ H fun x H1 => tb σ H1 fun y H2 => rg2 x y H2 R
theorem i3_rng1 {tg a : Expr} {ta : TE3} {p pos : Pos} (hm : X.mg "range" = none) (ha : PE3 X a ta) (hg : Gl X "range" := by rfl) (hs : starEach [a] X.env = [(false, eval a X.env)] := by rfl) (hs' : starEach [a] X.env = (false, eval a X.env) :: starEach [] X.env := by rfl) : PI3 X tg (.Call (.Name "range" p) [a] [] pos) (ir1 ta) :=
  pi_imp (pj_range1 hg hm (a3_cons ha a3_nil hs') hs) fun _ _ _ ⟨σ3, H3, R3, sr, hr, t, k⟩ => by
    refine ⟨σ3, H3, fun ds H1 => (match ds with | [x] => rg1 x H1 R3 | _ => False), sr, hr, t, fun ds vs H3a Ha tka hra rs qa => ?_⟩
    cases rs with
    | nil => exact qa.elim
    | cons r1 r2 =>
      cases r2 with
      | cons _ _ => exact qa.elim
      | nil =>
        cases r1 with
        | int j => exact ⟨j, rfl, k _ _ _ _ _ tka hra itOk_rng qa⟩
        | _ => exact qa.elim
theorem i3_rng2 {tg a b : Expr} {ta tb : TE3} {p pos : Pos} (hm : X.mg "range" = none) (ha : PE3 X a ta) (hb : PE3 X b tb) (hg : Gl X "range" := by rfl) (hs : starEach [a, b] X.env = [(false, eval a X.env), (false, eval b X.env)] := by rfl)
    (hs1 : starEach [a, b] X.env = (false, eval a X.env) :: starEach [b] X.env := by rfl) (hs2 : starEach [b] X.env = (false, eval b X.env) :: starEach [] X.env := by rfl) (hs3 : starEach [b] X.env = [(false, eval b X.env)] := by rfl) : PI3 X tg (.Call (.Name "range" p) [a, b] [] pos) (ir2 ta tb) :=
  pi_imp (pj_range2 hg hm (a3_cons ha (a3_cons hb a3_nil hs2) hs1) hs hs3) fun _ _ _ ⟨σ3, H3, R3, sr, hr, t, k⟩ => by
    refine ⟨σ3, H3, fun ds H1 => (match ds with | [x, y] => rg2 x y H1 R3 | _ => False), sr, hr, t, fun ds vs H3a Ha tka hra rs qa => ?_⟩
    cases rs with
    | nil => exact qa.elim
    | cons r1 r2 =>
      cases r2 with
      | nil => exact qa.elim
      | cons r2 r3 =>
        cases r3 with
        | cons _ _ => exact qa.elim
        | nil =>
          cases r1 with
          | int i =>
            cases r2 with
            | int j => exact ⟨i, j, rfl, k _ _ _ _ _ tka hra itOk_rng qa⟩
            | _ => exact qa.elim
          | _ => exact qa.elim
def fo3 (wi : TI3) (g : TG3) (tb : TS3) : TS3 := fun D σ H => wi σ H fun ds keep H1 => ∃ P : Nat → St3 → Hp3 → Prop, P 0 σ H1 ∧ (∀ i σ H, i ≤ ds.length → P i σ H → keep H) ∧
  (∀ i d σ H, ds[i]? = some d → P i σ H → g d σ H fun σ2 H2 => tb { D with nx := P (i + 1), ct := P (i + 1), bk := D.nx } σ2 H2) ∧ ∀ σ H, P ds.length σ H → D.nx σ H
theorem s3_for {tg iter : Expr} {body : List Stmt} {wi : TI3} {g : TG3} {tb : TS3} (hp : PassesOwn (model X.prog X.w) X.A X.env X.xe) (hc : X.calm = true) (hi : PI3 X tg iter wi) (hg : PG3 X tg g) (hb : PSs3 X body tb)
    (hs : ∀ x, foldedSetIterable iter X.env x = pure x := by intro _; rfl) : PS3 X (.For tg iter body [] pos) (fo3 wi g tb) :=
  ps_imp (ps_for hp hc hi hg hb hs) fun D σ H ⟨σ3, H3, D3, sr, hr, t, k⟩ => ⟨σ3, H3, _, sr, hr, t, fun ds keep J H3' H' tk' hr' ok q => by
    obtain ⟨P, p0, pk, pstep, pd⟩ := q
    refine ⟨fun i m σ1 H1 => m = ds.length - i ∧ i ≤ ds.length ∧ ∃ σ31 H31, TK H' H1 ∧ SR X.K H1 σ31 σ1 ∧ HR X.K H31 H1 ∧ P i σ31 H31, ⟨ds.length, by simp, Nat.zero_le _, σ3, H3', TK.refl, sr.mono tk', hr', p0⟩, ?_⟩
    rintro i m σ1 H1 ⟨rfl, hi, σ31, H31, tk1, sr1, hr1, p1⟩
    obtain ⟨go, stop⟩ := ok H31 H1 tk1 hr1 (pk i σ31 H31 hi p1)
    by_cases hlt : i < ds.length
    · obtain ⟨g1, g2⟩ := go i hlt
      refine .inr ⟨g1, fun σ' H'' => i + 1 ≤ ds.length ∧ ∃ σ3' H3'', TK H' H'' ∧ SR X.K H'' σ3' σ' ∧ HR X.K H3'' H'' ∧ P (i + 1) σ3' H3'', fun σ' H'' z => ⟨ds.length - (i + 1), by omega, rfl, z.1, z.2⟩, fun x H'' y => ?_⟩
      obtain ⟨e, d, ed, rd⟩ := g2 x H'' y
      subst e
      refine ⟨d, σ31, H31, _, rd, sr1, hr1, pstep i d σ31 H31 ed p1, fun σ3b σb H3b Hb tkb srb hrb qb => ⟨σ3b, H3b, _, srb, hrb, qb, ?_⟩⟩
      have kk := k.mono (tk'.trans (tk1.trans tkb))
      exact ⟨fun σ3c σc H3c Hc tkc src hrc qc => ⟨hlt, σ3c, H3c, (tk1.trans tkb).trans tkc, src, hrc, qc⟩, kk.rt, kk.nx, fun σ3c σc H3c Hc tkc src hrc qc => ⟨hlt, σ3c, H3c, (tk1.trans tkb).trans tkc, src, hrc, qc⟩⟩
    · have e : i = ds.length := by omega
      subst e
      exact .inl ⟨stop, k.nx _ _ _ _ (tk'.trans tk1) sr1 hr1 (pd σ31 H31 p1)⟩⟩
end

/-! ### defs of the text -/
abbrev Sp3 := List D → Hp3 → VK3 → Prop
def liftF (K : PySem.W.Frag) (sp : Sp3) : Sp := fun vs H Q _ => liftC K sp vs H Q
structure Fn (P : Program) (w : World) (K : PySem.W.Frag) (mg : Str → Option Value) (base : Heap) (k : Nat) (x : Str) (ps : List Str) (sp : Sp3) : Prop where
  ex : ∃ f fd, FnOk P w K mg base CX0 k f fd ps (liftF K sp) ∧ mg x = some (.ref f) ∧ PySem.W.keepIn K (.ref f) = true ∧ Binds K fd ps []
theorem p3_call {X : Cx} {k : Nat} {x : Str} {ps : List Str} {sp : Sp3} {p pos : Pos} {e : Expr} {es : List Expr} {t : TA3} (F : Fn X.prog X.w X.K X.mg X.base k x ps sp) (hr : Room k X.A) (ha : PA3 X (e :: es) t)
    (hg : Gl X x := by rfl) (hdb : (x == ("__debug__" : Str)) = false := by decide) (he : starEach (e :: es) X.env = (false, eval e X.env) :: starEach es X.env := by rfl) (hpl : (backTo pos (starEach es X.env)).any (·.1) = false := by rfl) :
    PE3 X (.Call (.Name x p) (e :: es) [] pos) (cb3 sp t) := by
  obtain ⟨f, fd, F, hm, hk, hb⟩ := F.ex
  refine pe_imp (pe_call (E := E0) F hr hg hm hk hb .nil pass0 ha hdb he hpl) fun _ _ _ h => ?_
  obtain ⟨σ3, H3, Q3, sr, hr, t, k⟩ := h
  exact ⟨σ3, H3, _, sr, hr, t, fun ds vs H3a Ha tka hra rs qa => ⟨ds, H3a, Q3, hra, by rw [List.append_nil]; exact rs, qa, k.mono tka⟩⟩
theorem p3_call0 {X : Cx} {k : Nat} {x : Str} {sp : Sp3} {p pos : Pos} (F : Fn X.prog X.w X.K X.mg X.base k x [] sp) (hr : Room k X.A)
    (hg : Gl X x := by rfl) (hdb : (x == ("__debug__" : Str)) = false := by decide) : PE3 X (.Call (.Name x p) [] [] pos) (cb3 sp nil3) := by
  obtain ⟨f, fd, F, hm, hk, hb⟩ := F.ex
  refine pe_imp (pe_call0 (E := E0) F hr hg hm hk hb .nil pass0 hdb) fun _ _ _ h => ?_
  obtain ⟨σ3, H3, Q3, sr, hr, t, k⟩ := h
  exact ⟨[], H3, Q3, hr, .nil, t, k⟩
def start3 (N : List Str) (ds : List D) : St3 := ds.map some ++ List.replicate (N.length - ds.length) none
theorem sr_start {K : PySem.W.Frag} {H : Hp} {N : List Str} {ds : List D} {vs : List V} (r : RepL K H ds vs) : SR K H (start3 N ds) (L2.start N vs) := by
  have hl := r.length
  refine ⟨by simp [start3, L2.start, hl], fun i d h => ?_⟩
  unfold start3 at h
  by_cases hi : i < ds.length
  · rw [List.getElem?_append_left (by simpa using hi), List.getElem?_map] at h
    cases e : ds[i]? with
    | none => rw [e] at h; cases h
    | some d' =>
      rw [e] at h
      cases h
      obtain ⟨v, hv, rv⟩ := r.get e
      refine ⟨v, ?_, rv⟩
      unfold L2.start
      rw [List.getElem?_append_left (by rw [List.length_map, ← hl]; exact hi), List.getElem?_map, hv]
      rfl
  · rw [List.getElem?_append_right (by simpa using hi), List.getElem?_replicate] at h
    split at h <;> cases h
/-- what is wanted behind a body: of the heap a part is enough -/
def fin3 (Q : VK3) : Ends3 := { nx := fun _ H' => ∃ H'', Sub3 H'' H' ∧ Q .non H'', rt := fun d H' => ∃ H'', Sub3 H'' H' ∧ Q d H'' }
theorem fnok3 {P : Program} {w : World} {K : PySem.W.Frag} {mg : Str → Option Value} {base : Heap} {x qual : Str} {st : Stmt} {f : Addr} {fd : FuncData} {N ps : List Str} {k : Nat} {sp : Sp3} (F : Fun K x qual st f fd) (S : FnScope N ps (defScope st))
    (len : ∀ ds H Q, sp ds H Q → ds.length = ps.length)
    (hbody : ∀ (cdv : Value) (A : Around) (outer : List Env) (s : Shared) (H : Hp) (E : XK), Room k (A.deeper (envOfC qual (defScope st) s.heap.objs.size f cdv)) →
      ∃ t, PSs3 (cxOf CX0 P w K mg base N qual (defScope st) f cdv A outer s H E).nox (defBody st) t ∧ ∀ ds H3 Q3, sp ds H3 Q3 → t (fin3 Q3) (start3 N ds) H3) : FnOk P w K mg base CX0 (k + 1) f fd ps (liftF K sp) := by
  refine F.ok S (fun vs H Q E h => ?_) (fun cdv A outer s H vs Q E hr h => ?_)
  · obtain ⟨ds, H3, Q3, _, rs, q, _⟩ := h
    rw [← rs.length]
    exact len ds H3 Q3 q
  · obtain ⟨ds, H3, Q3, hr3, rs, q, k⟩ := h
    obtain ⟨t, ht, hq⟩ := hbody cdv A outer s H E hr
    refine ⟨_, ht, start3 N ds, H3, _, sr_start rs, hr3, hq ds H3 Q3 q, ⟨fun σ3 σ H3' H' tk sr hr' z => ?_, fun d v H3' H' tk hr' rd z => ?_, fun _ _ _ _ _ _ _ z => z.elim, fun _ _ _ _ _ _ _ z => z.elim⟩⟩
    · obtain ⟨H'', sub, q'⟩ := z
      exact k _ _ _ _ tk (hr'.sub sub) .non q'
    · obtain ⟨H'', sub, q'⟩ := z
      exact k _ _ _ _ tk (hr'.sub sub) rd q'
theorem fn3 {P : Program} {w : World} {K : PySem.W.Frag} {mg : Str → Option Value} {base : Heap} {x qual : Str} {st : Stmt} {f : Addr} {fd : FuncData} {N ps : List Str} {k : Nat} {sp : Sp3} (F : Fun K x qual st f fd) (S : FnScope N ps (defScope st))
    (hm : mg x = some (.ref f)) (hb : Binds K fd ps []) (len : ∀ ds H Q, sp ds H Q → ds.length = ps.length)
    (hbody : ∀ (cdv : Value) (A : Around) (outer : List Env) (s : Shared) (H : Hp) (E : XK), Room k (A.deeper (envOfC qual (defScope st) s.heap.objs.size f cdv)) →
      ∃ t, PSs3 (cxOf CX0 P w K mg base N qual (defScope st) f cdv A outer s H E).nox (defBody st) t ∧ ∀ ds H3 Q3, sp ds H3 Q3 → t (fin3 Q3) (start3 N ds) H3) : Fn P w K mg base (k + 1) x ps sp :=
  ⟨f, fd, fnok3 F S len hbody, hm, F.kp, hb⟩
/-- the law's own call: the script is a frozen list of ints -/
theorem start_law {K : PySem.W.Frag} {sp : Sp3} {H : Hp} {a : Addr} {ns : List Int} {E : XK} (hO : Only H) (hS : SqL K H a (ns.map V.int)) (h : sp [.fl (ns.map D.int)] (fun _ => none) (fun d _ => d = .bl true)) : liftF K sp [.ref a] H (fun v _ => v = .bl true) E := by
  refine ⟨[.fl (ns.map D.int)], fun _ => none, fun d _ => d = .bl true, fun b o e => (by cases e), .cons (.fl ?_ (RepL.ints ns)) .nil, h, fun d v H3' H' tk hr rd q => ?_⟩
  · rcases hS with (z | z) | z
    · rcases hO a with q | ⟨o, xs, q⟩
      · rw [z] at q; cases q
      · rw [z] at q; cases q
    · exact .inl z
    · exact .inr z
  · subst q
    cases rd
    rfl
end L3

namespace L3
open PySem PySem.Spec PyProof.Rows L2
/-! ### equality of data -/
def mapO {α β : Type} (f : α → Option β) : List α → Option (List β)
  | [] => some []
  | d :: ds => match f d with
    | none => none
    | some p => match mapO f ds with
      | none => none
      | some ps => some (p :: ps)
def pyN : Nat → D → Option PyData
  | 0, d => match d with
    | .non => some .none
    | .bl b => some (.bool b)
    | .int i => some (.int i)
    | .str x => if PyData.strOk x = true then some (.str x) else none
    | _ => none
  | n + 1, d => match d with
    | .non => some .none
    | .bl b => some (.bool b)
    | .int i => some (.int i)
    | .str x => if PyData.strOk x = true then some (.str x) else none
    | .tup ds => (mapO (pyN n) ds).map .tuple
    | _ => none
def pyH (H : Hp3) (d : D) : Option PyData := match d with
  | .ref a => (match H a with
    | some (.lst ds) => (mapO (pyN 4) ds).map .list
    | _ => none)
  | .fl ds => (mapO (pyN 4) ds).map .list
  | d => pyN 5 d
section
variable {X : Cx} {pins : List (Addr × Obj)} {σ : St} {H : Hp} {s : Shared}
theorem vals_reads {f : D → Option PyData} {n : Nat} (hf : ∀ {d : D} {v : V} {u : Value} {p : PyData}, Rep X.K H d v → RelV v u → f d = some p → (∃ as, Reads s.heap u p as) ∧ p.canLay0 = true ∧ p.depth ≤ n) :
    ∀ {ds : List D} {vs : List V} {us : List Value} {ps : List PyData}, RepL X.K H ds vs → Vals vs us → mapO f ds = some ps → (∃ as, ReadsAll s.heap us ps as) ∧ PyData.canLayAll0 ps = true ∧ PyData.depthAll ps ≤ n
  | _, _, _, ps, .nil, .nil, h => by
    simp only [mapO, Option.some.injEq] at h
    subst h
    exact ⟨⟨[], .nil⟩, rfl, Nat.zero_le _⟩
  | _, _, _, ps, .cons r rs, .cons q qs, h => by
    simp only [mapO] at h
    split at h
    · cases h
    · rename_i p e1
      split at h
      · cases h
      · rename_i ps' e2
        cases h
        obtain ⟨⟨as, h1⟩, h2, h3⟩ := hf r q e1
        obtain ⟨⟨bs, g1⟩, g2, g3⟩ := vals_reads hf rs qs e2
        refine ⟨⟨_, .cons h1 g1⟩, ?_, ?_⟩
        · simp [PyData.canLayAll0, h2, g2]
        · simp only [PyData.depthAll]; omega
theorem rep_reads (I : Inv X pins σ H s) : ∀ (n : Nat) {d : D} {v : V} {u : Value} {p : PyData}, Rep X.K H d v → RelV v u → pyN n d = some p → (∃ as, Reads s.heap u p as) ∧ p.canLay0 = true ∧ p.depth ≤ n := by
  intro n
  induction n with
  | zero =>
    intro d v u p r q h
    cases r with
    | non => cases h; cases q; exact ⟨⟨_, .none⟩, rfl, Nat.zero_le _⟩
    | bl b => cases h; cases q; exact ⟨⟨_, .bool b⟩, rfl, Nat.zero_le _⟩
    | int i => cases h; obtain ⟨t, rfl⟩ := q; exact ⟨⟨_, .int i t⟩, rfl, Nat.zero_le _⟩
    | str x =>
      simp only [pyN] at h
      split at h
      · rename_i hx
        cases h; obtain ⟨t, rfl⟩ := q; exact ⟨⟨_, .str x t⟩, hx, Nat.zero_le _⟩
      · cases h
    | _ => cases h
  | succ n ih =>
    intro d v u p r q h
    cases r with
    | non => cases h; cases q; exact ⟨⟨_, .none⟩, rfl, Nat.zero_le _⟩
    | bl b => cases h; cases q; exact ⟨⟨_, .bool b⟩, rfl, Nat.zero_le _⟩
    | int i => cases h; obtain ⟨t, rfl⟩ := q; exact ⟨⟨_, .int i t⟩, rfl, Nat.zero_le _⟩
    | str x =>
      simp only [pyN] at h
      split at h
      · rename_i hx
        cases h; obtain ⟨t, rfl⟩ := q; exact ⟨⟨_, .str x t⟩, hx, Nat.zero_le _⟩
      · cases h
    | tup ha ra =>
      simp only [pyN, Option.map_eq_some_iff] at h
      obtain ⟨ps, h1, rfl⟩ := h
      cases q
      obtain ⟨its, rv, ⟨o, ho, hc, m, hd⟩, _⟩ := I.tuple (SqT.of ha)
      obtain ⟨⟨as, g1⟩, g2, g3⟩ := vals_reads (f := pyN n) (n := n) ih ra rv h1
      exact ⟨⟨_, .tuple ho hc hd (by simpa using g1)⟩, g2, by simp only [PyData.depth]; omega⟩
    | _ => cases h
theorem pyH_reads (I : Inv X pins σ H s) {H3 : Hp3} (hr : HR X.K H3 H) {d : D} {v : V} {u : Value} {p : PyData} (r : Rep X.K H d v) (q : RelV v u) (h : pyH H3 d = some p) : (∃ as, Reads s.heap u p as) ∧ p.canLay0 = true ∧ p.depth ≤ 5 := by
  have lst : ∀ {a : Addr} {xs : List V} {ds : List D}, SqL X.K H a xs → RepL X.K H ds xs → (mapO (pyN 4) ds).map PyData.list = some p → (∃ as, Reads s.heap (.ref a) p as) ∧ p.canLay0 = true ∧ p.depth ≤ 5 := fun hq ra h => by
    simp only [Option.map_eq_some_iff] at h
    obtain ⟨ps, h1, rfl⟩ := h
    obtain ⟨its, rv, pl, _⟩ := I.list hq
    obtain ⟨o, ho, hc, m, hd⟩ := pl.isList
    obtain ⟨⟨as, g1⟩, g2, g3⟩ := vals_reads (f := pyN 4) (n := 4) (rep_reads I 4) ra rv h1
    exact ⟨⟨_, .list ho hc hd (by simpa using g1)⟩, g2, by simp only [PyData.depth]; omega⟩
  cases r with
  | ref a =>
    simp only [pyH] at h
    split at h
    · rename_i ds ha
      obtain ⟨vs, ga, ra⟩ := hr a _ ha
      cases q
      exact lst (SqL.of ga) ra h
    · cases h
  | fl ha ra => cases q; exact lst ha.sq ra h
  | non => exact rep_reads I 5 .non q h
  | bl b => exact rep_reads I 5 (.bl b) q h
  | int b => exact rep_reads I 5 (.int b) q h
  | str b => exact rep_reads I 5 (.str b) q h
  | ty b => exact rep_reads I 5 (.ty b) q h
  | tup a b => exact rep_reads I 5 (.tup a b) q h
end
def r3eq : R3 := fun x y H Q => match pyH H x, pyH H y with
  | some p, some q => Q (.bl (PyData.eqv p q)) H
  | _, _ => False
def r3ne : R3 := fun x y H Q => match pyH H x, pyH H y with
  | some p, some q => Q (.bl (!PyData.eqv p q)) H
  | _, _ => False
section
variable {X : Cx}
theorem op3_eq (hu : X.A.units + 64 < cLine) : OpR X (compareOp .Eq) (lift2 X.K r3eq) := by
  intro pins s σ H x y v u Q I rx ry h
  obtain ⟨dx, dy, H3, Q3, hr, rdx, rdy, t, k⟩ := h
  simp only [r3eq] at t
  split at t
  · rename_i p q e1 e2
    obtain ⟨⟨as, h1⟩, h2, h3⟩ := pyH_reads I hr rdx rx e1
    obtain ⟨⟨bs, g1⟩, g2, g3⟩ := pyH_reads I hr rdy ry e2
    exact SeqAt.compareEq_reads h1 g1 h2 g2 (by have := Nat.min_le_left p.depth q.depth; omega) ⟨.bl _, H, I, rfl, k _ _ _ _ TK.refl hr (.bl _) t⟩
  · exact t.elim
theorem op3_ne (hu : X.A.units + 64 < cLine) : OpR X (compareOp .NotEq) (lift2 X.K r3ne) := by
  intro pins s σ H x y v u Q I rx ry h
  obtain ⟨dx, dy, H3, Q3, hr, rdx, rdy, t, k⟩ := h
  simp only [r3ne] at t
  split at t
  · rename_i p q e1 e2
    obtain ⟨⟨as, h1⟩, h2, h3⟩ := pyH_reads I hr rdx rx e1
    obtain ⟨⟨bs, g1⟩, g2, g3⟩ := pyH_reads I hr rdy ry e2
    exact SeqAt.compareNe_reads h1 g1 h2 g2 (by have := Nat.min_le_left p.depth q.depth; omega) ⟨.bl _, H, I, rfl, k _ _ _ _ TK.refl hr (.bl _) t⟩
  · exact t.elim
/-! ### in -/
/-- the items of a list or tuple -/
def seqH (H : Hp3) (d : D) : Option (List D) := match d with
  | .ref a => (match H a with
    | some (.lst ds) => some ds
    | _ => none)
  | .fl ds => some ds
  | .tup ds => some ds
  | _ => none
def r3in (neg : Bool) : R3 := fun x y H Q => match pyN 4 x, (seqH H y).bind (mapO (pyN 4)) with
  | some p, some ps => Q (.bl (if neg then !ps.any (fun q => PyData.eqv q p) else ps.any fun q => PyData.eqv q p)) H
  | _, _ => False
open Classical in
noncomputable def inE (h : Heap) (p : PyData) (u : Value) : Bool := decide (∃ q as, Reads h u q as ∧ q.canLay0 = true ∧ PyData.eqv q p = true)
open Classical in
theorem inE_eq {h : Heap} {p q : PyData} {u : Value} {as : List Addr} (r : Reads h u q as) (c : q.canLay0 = true) : inE h p u = PyData.eqv q p := by
  unfold inE
  cases e : PyData.eqv q p with
  | true => exact decide_eq_true ⟨q, as, r, c, e⟩
  | false =>
    refine decide_eq_false fun z => ?_
    obtain ⟨q', as', r', c', e'⟩ := z
    have z := SeqAt.Reads.unique q q' u as as' c r r'
    subst z
    rw [e] at e'
    cases e'
theorem in_items {pins : List (Addr × Obj)} {σ : St} {H : Hp} {s : Shared} (I : Inv X pins σ H s) (p : PyData) :
    ∀ {ds : List D} {vs : List V} {us : List Value} {ps : List PyData}, RepL X.K H ds vs → Vals vs us → mapO (pyN 4) ds = some ps →
      us.any (inE s.heap p) = ps.any (fun q => PyData.eqv q p) ∧ ∀ u ∈ us, ∃ q as, Reads s.heap u q as ∧ q.canLay0 = true ∧ q.depth ≤ 4
  | _, _, _, ps, .nil, .nil, h => by
    simp only [mapO, Option.some.injEq] at h
    subst h
    exact ⟨rfl, fun _ z => nomatch z⟩
  | _, _, _, ps, .cons r rs, .cons q qs, h => by
    simp only [mapO] at h
    split at h
    · cases h
    · rename_i p' e1
      split at h
      · cases h
      · rename_i ps' e2
        cases h
        obtain ⟨⟨as, h1⟩, h2, h3⟩ := rep_reads I 4 r q e1
        obtain ⟨g1, g2⟩ := in_items I p rs qs e2
        refine ⟨by rw [List.any_cons, List.any_cons, inE_eq h1 h2, g1], fun u hu => ?_⟩
        rcases List.mem_cons.mp hu with e | hu
        · rw [e]; exact ⟨_, _, h1, h2, h3⟩
        · exact g2 u hu
theorem in_at {A : Around} {pins : List (Addr × Obj)} {σ : St} {H : Hp} {s : Shared} (I : Inv X pins σ H s) (hu : A.units + 8 < cLine) {x : D} {vx : V} {ux : Value} {p : PyData} (rx : Rep X.K H x vx) (qx : RelV vx ux) (ex : pyN 4 x = some p)
    {us : List Value} (h : ∀ u ∈ us, ∃ q as, Reads s.heap u q as ∧ q.canLay0 = true ∧ q.depth ≤ 4) : ∀ u, u ∈ us.toArray → SeqAt.EqAt A s u ux (inE s.heap p u) := fun u hm => by
  obtain ⟨q, as, h1, h2, h3⟩ := h u (by simpa using hm)
  obtain ⟨⟨bs, g1⟩, g2, g3⟩ := rep_reads I 4 rx qx ex
  rw [inE_eq h1 h2]
  exact SeqAt.eqAt_reads _ _ A s _ _ _ _ h1 g1 h2 g2 (by have := Nat.min_le_left q.depth p.depth; omega)
theorem in1_units {A : Around} (h : A.units + 64 < cLine) : A.in1.units + 8 < cLine := by
  have e : A.in1.units = A.units + 1 := rfl
  omega
theorem op3_in (hu : X.A.units + 64 < cLine) : OpR X (compareOp .In) (lift2 X.K (r3in false)) := by
  intro pins s σ H x y v u Q I rx ry h
  obtain ⟨dx, dy, H3, Q3, hr, rdx, rdy, t, k⟩ := h
  simp only [r3in] at t
  split at t
  · rename_i p ps e1 e2
    simp only [Option.bind_eq_some_iff] at e2
    obtain ⟨ds, e2, e3⟩ := e2
    have fin := k _ _ _ _ TK.refl hr (.bl _) t
    cases rdy with
    | ref a =>
      simp only [seqH] at e2
      split at e2
      · rename_i ds' ha
        cases e2
        obtain ⟨vs, ga, ra⟩ := hr a _ ha
        cases ry
        obtain ⟨its, rv, pl, _⟩ := I.list (SqL.of ga)
        obtain ⟨g1, g2⟩ := in_items I p ra rv e3
        refine SeqAt.in_listAt (inE s.heap p) pl.isList (in_at I (in1_units hu) rdx rx e1 g2) ⟨.bl _, H, I, rfl, ?_⟩
        rw [show its.toArray.any (inE s.heap p) = its.any (inE s.heap p) by simp, g1]
        exact fin
      · cases e2
    | fl ha ra =>
      cases e2
      cases ry
      obtain ⟨its, rv, pl, _⟩ := I.list ha.sq
      obtain ⟨g1, g2⟩ := in_items I p ra rv e3
      refine SeqAt.in_listAt (inE s.heap p) pl.isList (in_at I (in1_units hu) rdx rx e1 g2) ⟨.bl _, H, I, rfl, ?_⟩
      rw [show its.toArray.any (inE s.heap p) = its.any (inE s.heap p) by simp, g1]
      exact fin
    | tup ha ra =>
      cases e2
      cases ry
      obtain ⟨its, rv, pl, _⟩ := I.tuple (SqT.of ha)
      obtain ⟨g1, g2⟩ := in_items I p ra rv e3
      refine SeqAt.in_tupleAt (inE s.heap p) pl (in_at I (in1_units hu) rdx rx e1 g2) ⟨.bl _, H, I, rfl, ?_⟩
      rw [show its.toArray.any (inE s.heap p) = its.any (inE s.heap p) by simp, g1]
      exact fin
    | _ => cases e2
  · exact t.elim
theorem op3_notIn (hu : X.A.units + 64 < cLine) : OpR X (compareOp .NotIn) (lift2 X.K (r3in true)) := by
  intro pins s σ H x y v u Q I rx ry h
  obtain ⟨dx, dy, H3, Q3, hr, rdx, rdy, t, k⟩ := h
  simp only [r3in] at t
  split at t
  · rename_i p ps e1 e2
    simp only [Option.bind_eq_some_iff] at e2
    obtain ⟨ds, e2, e3⟩ := e2
    have fin := k _ _ _ _ TK.refl hr (.bl _) t
    cases rdy with
    | ref a =>
      simp only [seqH] at e2
      split at e2
      · rename_i ds' ha
        cases e2
        obtain ⟨vs, ga, ra⟩ := hr a _ ha
        cases ry
        obtain ⟨its, rv, pl, _⟩ := I.list (SqL.of ga)
        obtain ⟨g1, g2⟩ := in_items I p ra rv e3
        refine SeqAt.notIn_listAt (inE s.heap p) pl.isList (in_at I (in1_units hu) rdx rx e1 g2) ⟨.bl _, H, I, rfl, ?_⟩
        rw [show its.toArray.any (inE s.heap p) = its.any (inE s.heap p) by simp, g1]
        exact fin
      · cases e2
    | fl ha ra =>
      cases e2
      cases ry
      obtain ⟨its, rv, pl, _⟩ := I.list ha.sq
      obtain ⟨g1, g2⟩ := in_items I p ra rv e3
      refine SeqAt.notIn_listAt (inE s.heap p) pl.isList (in_at I (in1_units hu) rdx rx e1 g2) ⟨.bl _, H, I, rfl, ?_⟩
      rw [show its.toArray.any (inE s.heap p) = its.any (inE s.heap p) by simp, g1]
      exact fin
    | tup ha ra =>
      cases e2
      cases ry
      obtain ⟨its, rv, pl, _⟩ := I.tuple (SqT.of ha)
      obtain ⟨g1, g2⟩ := in_items I p ra rv e3
      refine SeqAt.notIn_tupleAt (inE s.heap p) pl (in_at I (in1_units hu) rdx rx e1 g2) ⟨.bl _, H, I, rfl, ?_⟩
      rw [show its.toArray.any (inE s.heap p) = its.any (inE s.heap p) by simp, g1]
      exact fin
    | _ => cases e2
  · exact t.elim

/-! ### isinstance -/
def tyH (H : Hp3) (d : D) : Option String := match d with
  | .non => some "NoneType"
  | .bl _ => some "bool"
  | .int _ => some "int"
  | .str _ => some "str"
  | .tup _ => some "tuple"
  | .fl _ => some "list"
  | .ref a => (match H a with
    | some (.lst _) => some "list"
    | some (.dic _) => some "dict"
    | none => none)
  | .ty _ => none
def isT (U T : String) : Bool := U == T || (U == "bool" && T == "int")
def kinds : List String := ["int", "bool", "str", "tuple", "list", "dict"]
def r3isi : List D → Hp3 → VK3 → Prop := fun ds H Q => match ds with
  | [x, .ty T] => (match tyH H x with
    | some U => T ∈ kinds ∧ Q (.bl (isT U T)) H
    | none => False)
  | _ => False
theorem kit_ok (K : PySem.W.Frag) (U T : String) (hU : U ∈ "NoneType" :: kinds) (hT : T ∈ kinds) : PySem.W.kitOne K (.type U) (.type T) = some (isT U T) := by
  simp only [kinds, List.mem_cons, List.not_mem_nil, or_false] at hU hT
  rcases hU with rfl | rfl | rfl | rfl | rfl | rfl | rfl <;> rcases hT with rfl | rfl | rfl | rfl | rfl | rfl <;> kernel_rfl
theorem cb3_isi : CallR X (.builtin "isinstance") (liftC X.K r3isi) := by
  intro pins s σ H xs us Q I rs h
  obtain ⟨ds, H3, Q3, hr, rd, t, k⟩ := h
  cases rd with
  | nil => exact t.elim
  | cons r1 r2 =>
    cases r2 with
    | nil => cases r1 <;> exact t.elim
    | cons r2 r3 =>
      cases r3 with
      | cons _ _ => cases r1 <;> cases r2 <;> exact t.elim
      | nil =>
        cases r2 with
        | ty T =>
          obtain ⟨u, w, rfl, ru, rw'⟩ := vals2 rs
          obtain rfl : w = Value.type T := rw'
          simp only [r3isi] at t
          split at t
          · rename_i U eU
            obtain ⟨hT, t⟩ := t
            have fin : ∀ tk, EP X pins σ Q (.bool (isT U T)) { s with toks := tk } := fun tk => ⟨.bl _, H, I.tok tk, rfl, k _ _ _ _ TK.refl hr (.bl _) t⟩
            have e : ∀ (hU : U ∈ "NoneType" :: kinds), PySem.W.kitOne X.K (.type U) (.type T) = some (isT U T) := fun hU => kit_ok X.K U T hU hT
            cases r1 with
            | non => cases eU; exact isinst_ok I ru (.non) (e (by simp)) fin
            | bl b => cases eU; exact isinst_ok I ru (.bl b) (e (by simp [kinds])) fin
            | int b => cases eU; exact isinst_ok I ru (.int b) (e (by simp [kinds])) fin
            | str b => cases eU; exact isinst_ok I ru (.str b) (e (by simp [kinds])) fin
            | ty b => cases eU
            | tup ha ra =>
              cases eU
              cases ru
              obtain ⟨its, _, ⟨o, h1, h2, _⟩, _⟩ := I.tuple (SqT.of ha)
              exact PySem.W.kia_one PySem.W.kitx_tuple I.kIn ⟨o, h1, h2⟩ (e (by simp [kinds])) (fun z => nomatch z) fin
            | fl ha ra =>
              cases eU
              cases ru
              obtain ⟨its, _, pl, _⟩ := I.list ha.sq
              obtain ⟨o, h1, h2, _⟩ := pl.isList
              exact PySem.W.kia_one PySem.W.kitx_list I.kIn ⟨o, h1, h2⟩ (e (by simp [kinds])) (fun z => nomatch z) fin
            | ref a =>
              simp only [tyH] at eU
              split at eU
              · rename_i ds ha
                cases eU
                obtain ⟨vs, ga, ra⟩ := hr a _ ha
                exact isinst_ok I ru (.lst ga) (e (by simp [kinds])) fin
              · rename_i ds ha
                cases eU
                obtain ⟨vs, ga, ra⟩ := hr a _ ha
                exact isinst_ok I ru (.dT ga) (e (by simp [kinds])) fin
              · cases eU
          · exact t.elim
        | _ => cases r1 <;> exact t.elim

/-! ### a list's methods -/
def m3 (r : D → List D → Hp3 → VK3 → Prop) (to : TE3) (t : TA3) : TE3 := fun σ H Q => to σ H fun x H1 => (match x with
  | .ref a => (match H1 a with
    | some (.lst _) => t σ H1 fun xs H2 => r x xs H2 Q
    | _ => False)
  | _ => False)
theorem p3_bm {o e : Expr} {es : List Expr} {to : TE3} {t : TA3} {name : Str} {apos cpos : Pos} {id : String} {r : D → List D → Hp3 → VK3 → Prop} (slot : Slot "list" name id) (hty : typeOf (.builtin id) = pure (.type "method_descriptor")) (hm : MtR X id (liftM X.K r)) (ho : PE3 X o to) (ha : PA3 X (e :: es) t)
    (hbase : attributeBase o name X.env (eval o X.env) = eval o X.env := by rfl)
    (hfew : ((backTo cpos (starEach (e :: es) X.env)).all (fun x => !x.1) && (backToKw cpos (keywordEach [] X.env)).all (fun x => x.1.isSome)
      && decide ((e :: es).length + ([] : List Keyword).length + (if ([] : List Keyword).isEmpty then 0 else 1) < 30)) = true := by rfl)
    (hline : (apos.endLine == cpos.line) = true := by rfl) (hs : starEach (e :: es) X.env = (false, eval e X.env) :: starEach es X.env := by rfl) (hplain : (backTo cpos (starEach es X.env)).any (·.1) = false := by rfl) :
    PE3 X (.Call (.Attribute o name apos) (e :: es) [] cpos) (m3 r to t) :=
  pe_imp (pe_bm PySem.F.plainAttrs_list slot hty hm ho ha hbase hfew hline hs hplain) fun _ _ _ ⟨σ3, H3, Q3, sr, hr, t, k⟩ => ⟨σ3, H3, _, sr, hr, t, fun x v H3a Ha tka hra rx qa => by
    cases rx with
    | ref a =>
      simp only [] at qa
      split at qa
      · rename_i ds ha
        obtain ⟨vs, ga, ra⟩ := hra a _ ha
        exact ⟨.inl ⟨rfl, vs, SqL.of ga⟩, σ3, H3a, _, sr.mono tka, hra, qa, fun ds us H3b Hb tkb hrb rs qb => ⟨.ref a, ds, H3b, Q3, hrb, .ref a, rs, qb, k.mono (tka.trans tkb)⟩⟩
      · exact qa.elim
    | _ => exact qa.elim⟩
theorem p3_bm0 {o : Expr} {to : TE3} {name : Str} {apos cpos : Pos} {id : String} {r : D → List D → Hp3 → VK3 → Prop} (slot : Slot "list" name id) (hty : typeOf (.builtin id) = pure (.type "method_descriptor")) (hm : MtR X id (liftM X.K r)) (ho : PE3 X o to)
    (hbase : attributeBase o name X.env (eval o X.env) = eval o X.env := by rfl) (hline : (apos.endLine == cpos.line) = true := by rfl) :
    PE3 X (.Call (.Attribute o name apos) [] [] cpos) (m3 r to nil3) :=
  pe_imp (pe_bm0 PySem.F.plainAttrs_list slot hty hm ho hbase hline) fun _ _ _ ⟨σ3, H3, Q3, sr, hr, t, k⟩ => ⟨σ3, H3, _, sr, hr, t, fun x v H3a Ha tka hra rx qa => by
    cases rx with
    | ref a =>
      simp only [] at qa
      split at qa
      · rename_i ds ha
        obtain ⟨vs, ga, ra⟩ := hra a _ ha
        exact ⟨.inl ⟨rfl, vs, SqL.of ga⟩, .ref a, [], H3a, Q3, hra, .ref a, .nil, qa, k.mono tka⟩
      · exact qa.elim
    | _ => exact qa.elim⟩
def r3app : D → List D → Hp3 → VK3 → Prop := fun x xs H Q => match x, xs with
  | .ref a, [y] => (match H a with
    | some (.lst ds) => ds.length < sizeLine ∧ Q .non (upd3 H a (.lst (ds ++ [y])))
    | _ => False)
  | _, _ => False
theorem mt3_app : MtR X "list.append" (liftM X.K r3app) := by
  intro pins s σ H x xs v us Q I rx rs h
  obtain ⟨d, ds, H3, Q3, hr, rd, rds, t, k⟩ := h
  cases rd with
  | ref a =>
    cases rds with
    | nil => exact t.elim
    | cons r1 r2 =>
      cases r2 with
      | cons _ _ => exact t.elim
      | nil =>
        simp only [r3app] at t
        split at t
        · rename_i ds ha
          obtain ⟨vs, ga, ra⟩ := hr a _ ha
          exact mt_append pins s σ H _ _ v us Q I rx rs ⟨a, vs, _, rfl, rfl, ga, by rw [← ra.length]; exact t.1, k _ _ _ _ (TK.lst ga) (hr.setL (TK.lst ga) ((ra.snoc r1).mono (TK.lst ga))) .non t.2⟩
        · exact t.elim
  | _ => exact t.elim
def r3ext : D → List D → Hp3 → VK3 → Prop := fun x xs H Q => match x, xs with
  | .ref a, [.ref b] => (match H a, H b with
    | some (.lst ds), some (.lst es) => ds.length + es.length ≤ sizeLine ∧ Q .non (upd3 H a (.lst (ds ++ es)))
    | _, _ => False)
  | _, _ => False
theorem mt3_ext : MtR X "list.extend" (liftM X.K r3ext) := by
  intro pins s σ H x xs v us Q I rx rs h
  obtain ⟨d, ds, H3, Q3, hr, rd, rds, t, k⟩ := h
  cases rd with
  | ref a =>
    cases rds with
    | nil => exact t.elim
    | cons r1 r2 =>
      cases r2 with
      | cons _ _ => cases r1 <;> exact t.elim
      | nil =>
        cases r1 with
        | ref b =>
          simp only [r3ext] at t
          split at t
          · rename_i ds es ha hb
            obtain ⟨vs, ga, ra⟩ := hr a _ ha
            obtain ⟨ws, gb, rb⟩ := hr b _ hb
            exact mt_extend pins s σ H _ _ v us Q I rx rs ⟨a, b, vs, ws, rfl, rfl, ga, gb, by rw [← ra.length, ← rb.length]; exact t.1, k _ _ _ _ (TK.lst ga) (hr.setL (TK.lst ga) ((ra.append rb).mono (TK.lst ga))) .non t.2⟩
          · exact t.elim
        | _ => exact t.elim
  | _ => exact t.elim
def r3pop : D → List D → Hp3 → VK3 → Prop := fun x xs H Q => match x, xs with
  | .ref a, [] => (match H a with
    | some (.lst ds) => (match ds[ds.length - 1]? with | some y => Q y (upd3 H a (.lst ds.dropLast)) | none => False)
    | _ => False)
  | _, _ => False
theorem mt3_pop : MtR X "list.pop" (liftM X.K r3pop) := by
  intro pins s σ H x xs v us Q I rx rs h
  obtain ⟨d, ds, H3, Q3, hr, rd, rds, t, k⟩ := h
  cases rd with
  | ref a =>
    cases rds with
    | cons _ _ => exact t.elim
    | nil =>
      simp only [r3pop] at t
      split at t
      · rename_i ds ha
        split at t
        · rename_i y ey
          obtain ⟨vs, ga, ra⟩ := hr a _ ha
          obtain ⟨w, ew, rw'⟩ := ra.get ey
          exact mt_pop pins s σ H _ _ v us Q I rx rs ⟨a, vs, w, rfl, rfl, ga, by rw [← ra.length]; exact ew, k _ _ _ _ (TK.lst ga) (hr.setL (TK.lst ga) (ra.dropLast.mono (TK.lst ga))) (rw'.mono (TK.lst ga)) t⟩
        · exact t.elim
      · exact t.elim
  | _ => exact t.elim
def r3clr : D → List D → Hp3 → VK3 → Prop := fun x xs H Q => match x, xs with
  | .ref a, [] => (match H a with
    | some (.lst _) => Q .non (upd3 H a (.lst []))
    | _ => False)
  | _, _ => False
theorem mt3_clr : MtR X "list.clear" (liftM X.K r3clr) := by
  intro pins s σ H x xs v us Q I rx rs h
  obtain ⟨d, ds, H3, Q3, hr, rd, rds, t, k⟩ := h
  cases rd with
  | ref a =>
    cases rds with
    | cons _ _ => exact t.elim
    | nil =>
      simp only [r3clr] at t
      split at t
      · rename_i ds ha
        obtain ⟨vs, ga, ra⟩ := hr a _ ha
        exact mt_clear pins s σ H _ _ v us Q I rx rs ⟨a, vs, rfl, rfl, ga, k _ _ _ _ (TK.lst ga) (hr.setL (TK.lst ga) (.nil)) .non t⟩
      · exact t.elim
  | _ => exact t.elim
end
end L3

namespace L3
open PySem PySem.Spec PyProof.Rows L2
/-! ### list comprehensions -/
/-- the cells that a block takes with it -/
theorem closure_ok {scope : Scope} {env : Env} (h : ∀ y, (y, NameKind.free) ∈ scope.names → ∃ c, env.cells.lookup y = some c) :
    ∃ cl, closureFor scope env = pure cl ∧ (∀ y c, cl.lookup y = some c → env.cells.lookup y = some c) ∧ ∀ y, (y, NameKind.free) ∈ scope.names → ∃ c, cl.lookup y = some c := by
  have go : ∀ (names : List (Str × NameKind)) (cs : List (Str × Addr)), (∀ y, (y, NameKind.free) ∈ names → ∃ c, env.cells.lookup y = some c) → (∀ y c, cs.lookup y = some c → env.cells.lookup y = some c) →
      ∃ cl, (forIn (m := Sem) names cs fun (x : Str × NameKind) r => match x with
        | (name, kind) => if (kind == NameKind.free) = true then do let c ← cellOf env name; pure (ForInStep.yield ((name, c) :: r)) else pure (ForInStep.yield r)) = pure cl ∧
        (∀ y c, cl.lookup y = some c → env.cells.lookup y = some c) ∧ (∀ y, (y, NameKind.free) ∈ names → ∃ c, cl.lookup y = some c) ∧ ∀ y c, cs.lookup y = some c → ∃ c', cl.lookup y = some c' := by
    intro names
    induction names with
    | nil => intro cs _ h2; exact ⟨cs, rfl, h2, (fun _ z => nomatch z), fun y c e => ⟨c, e⟩⟩
    | cons x r ih =>
      intro cs h1 h2
      obtain ⟨n, k⟩ := x
      by_cases hk : k = NameKind.free
      · subst hk
        obtain ⟨c, hc⟩ := h1 n List.mem_cons_self
        have ec : cellOf env n = pure c := by unfold cellOf; rw [hc]
        have h2' : ∀ y c', ((n, c) :: cs).lookup y = some c' → env.cells.lookup y = some c' := fun y c' e => by
          rw [List.lookup_cons] at e
          split at e
          · rename_i he
            cases e
            rw [eq_of_beq he]; exact hc
          · exact h2 y c' e
        obtain ⟨cl, e1, e2, e3, e4⟩ := ih ((n, c) :: cs) (fun y hy => h1 y (List.mem_cons_of_mem _ hy)) h2'
        have hn : ∃ c', cl.lookup n = some c' := e4 n c (by rw [List.lookup_cons]; simp)
        refine ⟨cl, ?_, e2, fun y hy => ?_, fun y c' e => ?_⟩
        · rw [List.forIn_cons]
          simp only [beq_self_eq_true, if_true, ec]
          exact e1
        · rcases List.mem_cons.mp hy with z | z
          · cases z; exact hn
          · exact e3 y z
        · by_cases hy : y = n
          · rw [hy]; exact hn
          · exact e4 y c' (by rw [List.lookup_cons, beq_eq_false_iff_ne.mpr hy]; exact e)
      · have hb : (k == NameKind.free) = false := by simpa using hk
        obtain ⟨cl, e1, e2, e3, e4⟩ := ih cs (fun y hy => h1 y (List.mem_cons_of_mem _ hy)) h2
        refine ⟨cl, ?_, e2, fun y hy => ?_, e4⟩
        · rw [List.forIn_cons]
          simp only [hb, Bool.false_eq_true, if_false]
          exact e1
        · rcases List.mem_cons.mp hy with z | z
          · cases z; exact absurd rfl hk
          · exact e3 y z
  obtain ⟨cl, e1, e2, e3, _⟩ := go scope.names [] h (fun _ _ e => by simp at e)
  refine ⟨cl, ?_, e2, e3⟩
  unfold closureFor
  refine Eq.trans (congrArg (fun t => t >>= fun cs => pure cs) e1) ?_
  rfl

theorem comp_loop {prog : Program} {w : World} {A : Around} {R : Result → Shared → Prop} {s : Shared} {elt target iter : Expr} {ifs : List Expr} {scope : Scope} {pos : Pos} {it acc : Value} {env : Env} (I : Nat → Shared → Prop)
    (turn : ∀ n s, I n s → wpAny (model prog w) A (pyNext it) (fun r s₁ => match r with
      | none => R (.ok .next) s₁
      | some v => wpAny (model prog w) A (letOwnedTupleGo target it v) (fun _ s₁' => wpAny (model prog w) A (assign target env v) (fun _ s₂ =>
          wpAny (model prog w) A (forIn ifs true fun c r => if r = true then do let ok ← isTrue c env (eval c env); pure (ForInStep.yield ok) else pure (ForInStep.yield r)) (fun ok s₃ =>
            if ok = true then wpAny (model prog w) A (eval elt env) (fun x s₄ =>
              wpAny (model prog w) A (call (.builtin "list.append") [acc, x]) (fun _ s₅ => ∃ m, m < n ∧ I m s₅) (fun _ _ => False) s₄) (fun _ _ => False) s₃
            else ∃ m, m < n ∧ I m s₃) (fun _ _ => False) s₂) (fun _ _ => False) s₁') (fun _ _ => False) s₁) (fun _ _ => False) s)
    (n : Nat) (h : I n s) :
    codeAny (model prog w) A (.compLoop (.ListComp elt [⟨target, iter, ifs, 0⟩] scope pos) 0 it acc env) R s := by
  refine codeAny_loop rfl I (fun n s hI => ?_) n h
  show wpAny _ A ((compTurn (.ListComp elt [⟨target, iter, ifs, 0⟩] scope pos) 0 it acc env).onRaise (fun x => do noteFrame x env; theTreesLotGoes x)) _ _ s
  refine wpAny_noted ?_
  rw [compTurn_list]
  refine wpAny_bind (wpAny_standAt (wpAny_bind (wpAny_mono (turn n s hI) (fun r s₁ h₁ => ?_) fun _ _ h' => h'.elim)))
  cases r with
  | none => exact wpAny_pure h₁
  | some v =>
    refine wpAny_bind (wpAny_mono h₁ (fun _ s₁' h₁' => ?_) fun _ _ h' => h'.elim)
    refine wpAny_bind (wpAny_mono h₁' (fun _ s₂ h₂ => wpAny_bind (wpAny_mono h₂ (fun ok s₃ h₃ => ?_) fun _ _ h' => h'.elim)) fun _ _ h' => h'.elim)
    cases ok with
    | false => exact wpAny_pure ⟨rfl, h₃⟩
    | true =>
      exact wpAny_bind (wpAny_bind (wpAny_mono h₃ (fun x s₄ h₄ => wpAny_bind (wpAny_mono h₄ (fun _ s₅ h₅ => wpAny_pure (wpAny_pure ⟨rfl, h₅⟩)) fun _ _ h' => h'.elim)) fun _ _ h' => h'.elim))

/-- the block's context: own names N', entered at s₁ with the heap H₁; fp: what the iterator is made of; pins: what must stand -/
def cxC (X : Cx) (N' : List Str) (scope : Scope) (cl : List (Str × Addr)) (s₁ : Shared) (H₁ : Hp) (fp : List Addr) (pins : List (Addr × Obj)) : Cx where
  prog := X.prog
  w := X.w
  K := X.K
  mg := X.mg
  base := X.base
  A := X.A
  N := N'
  s₀ := s₁
  H₀ := H₁
  env := compEnvC scope cl s₁.heap.objs.size X.env
  outer := X.stack
  stack := X.stack
  ex := fp
  fn := fun _ => false
  calm := X.calm
  pn := X.pn ++ pins
  xe := fun _ _ => False

/-- the names that the block reads from the def round it: slot of the def, name -/
abbrev FV := List (Nat × Str)
/-- the kinds of the block's names, by the def's scope round it -/
def relS (scope sc : Scope) : Scope := { scope with names := scope.names.map fun (n, k) => if (k == .free && sc.kind == .function && sc.names.lookup n == some .cell) then (n, .cell) else (n, k) }
structure CompOk (sc : Scope) (N : List Str) (scope : Scope) (N' : List Str) (own : List Str) (fv : FV) : Prop where
  kind : scope.kind = .function
  nocell : ∀ y ∈ scope.names, y.2 ≠ .cell
  loc : ∀ y ∈ scope.names, y.2 = .local → scope.names.lookup y.1 = some .local
  fre' : ∀ y ∈ scope.names, y.2 = .free → sc.names.lookup y.1 = some .cell
  eqN : N' = own ++ fv.map (·.2)
  nd : N'.Nodup
  slot : ∀ p ∈ fv, N[p.1]? = some p.2 ∧ sc.names.lookup p.2 = some .cell ∧ (relS scope sc).names.lookup p.2 = some .cell
theorem CompOk.fre {sc scope : Scope} {N N' own : List Str} {fv : FV} (c : CompOk sc N scope N' own fv) : ∀ y, (y, NameKind.free) ∈ scope.names → sc.names.lookup y = some .cell := fun y hy => c.fre' _ hy rfl

/-- the frame of the block at its start: own names unset, the others as round it -/
def blk (own : List Str) (fv : FV) (σ : St) : St := own.map (fun _ => none) ++ fv.map fun p => (σ[p.1]?).join

theorem rel_lookup {scope : Scope} {env : Env} : ∀ {names : List (Str × NameKind)} {y : Str} {k : NameKind},
    (names.map fun (n, k) => if (k == NameKind.free && env.scope.kind == .function && env.kindOf n == some .cell) then (n, NameKind.cell) else (n, k)).lookup y = some k → k = .cell ∨ k = .free → (∀ z ∈ names, z.2 ≠ .cell) → (y, NameKind.free) ∈ names
  | [], _, _, h, _, _ => by simp at h
  | (n, k0) :: r, y, k, h, hk, hc => by
    rw [List.map_cons] at h
    by_cases hf : k0 = NameKind.free
    · by_cases hy : y = n
      · subst hy; subst hf; exact List.mem_cons_self
      · refine List.mem_cons_of_mem _ (rel_lookup (env := env) (scope := scope) (k := k) ?_ hk fun z hz => hc z (List.mem_cons_of_mem _ hz))
        dsimp only at h
        have hyb : (y == n) = false := beq_eq_false_iff_ne.mpr hy
        split at h <;> (rw [List.lookup_cons, hyb] at h; exact h)
    · have hb : (k0 == NameKind.free) = false := by simpa using hf
      simp only [hb, Bool.false_and, Bool.false_eq_true, if_false] at h
      rw [List.lookup_cons] at h
      by_cases hy : y = n
      · subst hy
        simp only [beq_self_eq_true] at h
        cases h
        rcases hk with z | z
        · exact absurd z (hc _ List.mem_cons_self)
        · exact absurd z hf
      · have hyb : (y == n) = false := beq_eq_false_iff_ne.mpr hy
        rw [hyb] at h
        exact List.mem_cons_of_mem _ (rel_lookup (env := env) (scope := scope) (k := k) h hk fun z hz => hc z (List.mem_cons_of_mem _ hz))

section
variable {X : Cx} {pins : List (Addr × Obj)} {σ : St} {H₁ : Hp} {s₁ s₂ : Shared} {scope : Scope} {cl : List (Str × Addr)} {N' own : List Str} {fv : FV} {fp : List Addr}
theorem cxC_ok (I : Inv X pins σ H₁ s₁) (c : CompOk X.env.scope X.N scope N' own fv) (h1 : ∀ y c, cl.lookup y = some c → X.env.cells.lookup y = some c) (h2 : ∀ y, (y, NameKind.free) ∈ scope.names → ∃ c, cl.lookup y = some c)
    (hf : ∀ b ∈ fp, FpOk X pins H₁ b ∧ b < s₁.heap.objs.size) : (cxC X N' scope cl s₁ H₁ fp pins).Ok where
  mod := I.ok.mod
  kind := c.kind
  glob := I.ok.glob
  blt := I.ok.blt
  above := Nat.le_refl _
  inj := fun x y a e1 e2 => I.ok.inj x y a (h1 x a e1) (h1 y a e2)
  has := fun x hx => by
    have hx' : (relabel scope X.env).names.lookup x = some .cell ∨ (relabel scope X.env).names.lookup x = some .free := hx
    rcases hx' with z | z
    · exact h2 x (rel_lookup (scope := scope) (env := X.env) z (.inl rfl) c.nocell)
    · exact h2 x (rel_lookup (scope := scope) (env := X.env) z (.inr rfl) c.nocell)
  cab := fun x a e => by cases e
  hd := I.ok.hd
  frames := I.ok.frames
  stk := .inl rfl
  exf := fun b hb => ⟨Nat.ne_of_lt (hf b hb).2, fun x a e => (hf b hb).1.2.2.2.2.1 x a (h1 x a e)⟩
  bs := I.bs
  bsz := Nat.le_trans I.ok.bsz I.sz
  noex := fun b o e hb => by
    rcases (hf b hb).1.2.2.2.1 with z | z
    · exact I.ok.noex b o e z
    · exact absurd (Nat.lt_of_lt_of_le (Heap.lt_size (I.ok.bs b o e).1) z) (Nat.lt_irrefl _)
  exfs := fun b hb hm => by
    rcases List.mem_cons.mp (I.stkSub b hm) with z | z
    · exact (hf b hb).1.2.1 z
    · exact (hf b hb).1.2.2.1 z
  funs := I.stack
  frf := I.stkFree
theorem blk_len : (blk own fv σ).length = (own ++ fv.map (·.2)).length := by simp [blk]
/-- the block is entered -/
theorem inv_block (I : Inv X pins σ H₁ s₁) (c : CompOk X.env.scope X.N scope N' own fv) (h1 : ∀ y c, cl.lookup y = some c → X.env.cells.lookup y = some c) (h2 : ∀ y, (y, NameKind.free) ∈ scope.names → ∃ c, cl.lookup y = some c)
    (hf : ∀ b ∈ fp, FpOk X pins H₁ b ∧ b < s₁.heap.objs.size) {h' : Heap} {m : Str → Option Value} {tk : Nat} (hn : h'.Ns s₁.heap.objs.size m) (kp : ∀ b o, s₁.heap.get? b = some o → h'.get? b = some o) :
    Inv (cxC X N' scope cl s₁ H₁ fp pins) [] (blk own fv σ) H₁ { s₁ with heap := h', toks := tk } where
  ok := cxC_ok I c h1 h2 hf
  os := rfl
  bare := I.bare
  base := Un.kept kp
  loc := by
    refine ⟨m, hn, fun i x v e1 e2 e3 => ?_⟩
    have e1' : (own ++ fv.map (·.2))[i]? = some x := by rw [← c.eqN]; exact e1
    have hi : ¬ i < own.length := fun hi => by
      unfold blk at e2
      rw [List.getElem?_append_left (by simpa using hi), List.getElem?_map] at e2
      cases z : own[i]? with
      | none => rw [z] at e2; cases e2
      | some y => rw [z] at e2; cases e2
    unfold blk at e2
    rw [List.getElem?_append_right (by simpa using hi), List.length_map, List.getElem?_map] at e2
    rw [List.getElem?_append_right (by simpa using hi), List.getElem?_map] at e1'
    cases z : fv[i - own.length]? with
    | none => rw [z] at e2; cases e2
    | some p =>
      rw [z] at e2 e1'
      have ex : p.2 = x := Option.some.inj e1'
      subst ex
      obtain ⟨g1, g2, g3⟩ := c.slot p (List.mem_of_getElem? z)
      have e2' : (σ[p.1]?).join = some v := Option.some.inj e2
      have e2'' : σ[p.1]? = some (some v) := by
        cases q : σ[p.1]? with
        | none => rw [q] at e2'; cases e2'
        | some o => rw [q] at e2'; rw [show o = some v from e2']
      obtain ⟨m0, hn0, hl0⟩ := I.loc
      obtain ⟨u, ru, lu⟩ := hl0 p.1 p.2 v g1 e2'' (.inr (.inl g2))
      refine ⟨u, ru, .inr ⟨.inl g3, ?_⟩⟩
      rcases lu with ⟨k, _⟩ | ⟨_, cc, ec, ic⟩
      · exact absurd (show X.env.scope.names.lookup p.2 = some NameKind.local from k) (by rw [g2]; intro z; cases z)
      · have hfree : (p.2, NameKind.free) ∈ scope.names := rel_lookup (scope := scope) (env := X.env) g3 (.inl rfl) c.nocell
        obtain ⟨c', ec'⟩ := h2 _ hfree
        have := h1 _ _ ec'
        rw [ec] at this
        cases this
        obtain ⟨o, ho, hd⟩ := ic
        exact ⟨cc, ec', o, kp _ _ ho, hd⟩
  cell := fun x a e => by
    obtain ⟨v, o, ho, hd⟩ := I.cell x a (h1 x a e)
    exact ⟨v, o, kp _ _ ho, hd⟩
  free := I.hok.fresh (Nat.le_refl _)
  freeC := fun x a e => I.freeC x a (h1 x a e)
  pin := fun p hp => by
    rw [List.append_nil] at hp
    obtain ⟨g1, g2, g3, g4, g5⟩ := I.pin p hp
    refine ⟨kp _ _ g1, g2, Nat.ne_of_lt (Heap.lt_size g1), fun hm => ?_, g5⟩
    rcases List.mem_cons.mp (I.stkSub p.1 hm) with z | z
    · exact g3 z
    · exact g4 z
  hok := I.hok.kept kp
  len := by rw [blk_len, ← c.eqN]; rfl
/-- behind the block -/
theorem inv_left {σ' : St} {H' : Hp} (I : Inv X pins σ H₁ s₁) (hf : ∀ b ∈ fp, FpOk X pins H₁ b ∧ b < s₁.heap.objs.size) (J : Inv (cxC X N' scope cl s₁ H₁ fp pins) [] σ' H' s₂) :
    Inv X pins σ H' s₂ ∧ FpOk X pins H' s₁.heap.objs.size ∧ ∃ m, s₂.heap.Ns s₁.heap.objs.size m := by
  have I2 : Inv X pins σ H' s₂ := I.call' (ch := fp) J.os J.base J.hok J.bare fun b hb => ⟨(hf b hb).1.2.2.2.1, (hf b hb).1.2.1, (hf b hb).1.2.2.2.2.1, (hf b hb).1.2.2.2.2.2⟩
  obtain ⟨m, hn, _⟩ := J.loc
  exact ⟨I2, ⟨J.free, (I.fpOk (H' := H') (Nat.le_refl _) J.free).2⟩, m, hn⟩
end

/-- the tests of a comprehension: none, or one -/
def PIfs (X : Cx) (ifs : List Expr) (t : TT) : Prop := ∀ (pins : List (Addr × Obj)) (s : Shared) (σ : St) (H : Hp) (Q : Bool → Hp → Prop), Inv X pins σ H s → t σ H Q →
  wpAny (model X.prog X.w) X.A (forIn ifs true fun c r => if r = true then do let ok ← isTrue c X.env (eval c X.env); pure (ForInStep.yield ok) else pure (ForInStep.yield r)) (TP X pins σ Q) X.xe s
theorem pifs_nil {X : Cx} : PIfs X [] (fun _ H Q => Q true H) := fun _ _ _ H _ I h => wpAny_tests_nil ⟨H, I, h⟩
theorem pifs_one {X : Cx} {c : Expr} {t : TT} (h : PT X c t) : PIfs X [c] t := fun pins s σ H Q I hw => wpAny_tests_one (h pins s σ H Q I hw)

/-- the reading: at each turn the item is stored, tested, the element put behind the list at p -/
def tComp (wi : TI) (g : TG) (tc : TT) (te : TE) (own : List Str) (fv : FV) : TE := fun σ H Q => wi σ H fun J H1 => ∀ p, H1 p = none → ∃ W : Nat → Nat → Hp → Prop, (∃ m, W 0 m (upd H1 p (.lst []))) ∧ ∀ i m H2, W i m H2 →
  (J.stop i H2 ∧ Q (.ref p) H2) ∨ (J.go i H2 ∧ ∀ x H3, J.yld i H2 x H3 → g x (blk own fv σ) H3 fun σ2 H4 => tc σ2 H4 fun b H5 => if b = true then te σ2 H5 fun v H6 => ∃ acc, H6 p = some (.lst acc) ∧ acc.length < sizeLine ∧
    ∃ m', m' < m ∧ W (i + 1) m' (upd H6 p (.lst (acc ++ [v]))) else ∃ m', m' < m ∧ W (i + 1) m' H5)

theorem comp_core {X : Cx} {pins : List (Addr × Obj)} {σ : St} {H : Hp} {s : Shared} {elt target iter : Expr} {ifs : List Expr} {scope : Scope} {pos fpos : Pos} {N' own : List Str} {fv : FV} {wi : TI} {g : TG} {tc : TT} {te : TE} {R : VK} {use : Option (Value → Sem Unit)} {Q' : Value → Shared → Prop}
    (c : CompOk X.env.scope X.N scope N' own fv) (hcalm : X.calm = true) (hi : PI X target iter wi)
    (hgk : ∀ x σ H Q, g x σ H Q → g x σ H fun σ' H' => (σ'.length = σ.length ∧ ∀ i, own.length ≤ i → σ'[i]? = σ[i]?) ∧ Q σ' H')
    (hb : ∀ cl s₁ H₁ fp, PG (cxC X N' scope cl s₁ H₁ fp pins) target g ∧ PIfs (cxC X N' scope cl s₁ H₁ fp pins) ifs tc ∧ PE (cxC X N' scope cl s₁ H₁ fp pins) elt te)
    (hs : ∀ x, foldedSetIterable iter X.env x = pure x) (I : Inv X pins σ H s) (h : tComp wi g tc te own fv σ H R)
    (fin : ∀ (p C : Addr) (H' : Hp) (s' : Shared) (m : Str → Option Value), Inv X pins σ H' s' → FpOk X pins H' C → s'.heap.Ns C m → R (.ref p) H' → compPost (model X.prog X.w) X.A X.xe use Q' (.ref p) C (.ok .next) s') :
    wpAny (model X.prog X.w) X.A (comprehension (.ListComp elt [⟨target, iter, ifs, 0⟩] scope pos) scope X.env fpos (newList []) false (eval iter X.env) use) Q' X.xe s := by
  obtain ⟨cl, hclos, h1, h2⟩ := closure_ok (scope := scope) (env := X.env) fun y hy => I.ok.has y (.inl (c.fre y hy))
  refine wpAny_comprehension_free (use := use) rfl hs hclos c.kind c.loc (wpAny_mono (hi pins s σ H _ I h) (fun v s1 h1' => wpAny_mono h1' (fun itv s2 h2' => ?_) fun _ _ e => e) fun _ _ e => e)
  obtain ⟨it, fp, tn, J, H2, rfl, I2, T, st2, f2, q2⟩ := h2'
  refine wpAny_newObj_type ?_
  -- the list
  have I3 : Inv X pins σ (upd H2 s2.heap.objs.size (.lst [])) { s2 with heap := s2.heap.push { cls := .type "list", data := .seq ([] : List Value).toArray } } := I2.lnew (t' := s2.toks) (ys := []) (its := []) .nil (Nat.zero_le _)
  have np : H2 s2.heap.objs.size = none := I2.fresh
  generalize hs3 : ({ s2 with heap := s2.heap.push { cls := .type "list", data := .seq ([] : List Value).toArray } } : Shared) = s3 at I3
  have e3 : s3.heap = s2.heap.push { cls := .type "list", data := .seq ([] : List Value).toArray } := by rw [← hs3]
  have old3 : ∀ b o, s2.heap.get? b = some o → s3.heap.get? b = some o := fun b o e => by rw [e3]; exact Heap.get?_push_of_some _ e
  have f3 : ∀ b ∈ fp, FpOk X pins (upd H2 s2.heap.objs.size (.lst [])) b ∧ b < s3.heap.objs.size := fun b hb => by
    obtain ⟨o, ho, _⟩ := T.obj 0 _ st2 b hb
    have hlt := Heap.lt_size ho
    refine ⟨⟨?_, (f2 b hb).2⟩, Heap.lt_size (old3 b o ho)⟩
    rw [upd_ne (Nat.ne_of_lt hlt)]
    exact (f2 b hb).1
  have st3 : tn 0 s3.heap := T.keep 0 _ _ st2 fun b hb o e => old3 b o e
  refine wpAny_newFunctionEnv c.nocell (by intro y hy; simp at hy) (fun h' hns hsb => ?_) c.kind
  have kp : ∀ b o, s3.heap.get? b = some o → h'.get? b = some o := fun b o e => (hsb.2 b (Nat.ne_of_lt (Heap.lt_size e))).trans (Heap.get?_push_of_some _ e)
  have J0 : Inv (cxC X N' scope cl s3 (upd H2 s2.heap.objs.size (.lst [])) fp pins) [] (blk own fv σ) (upd H2 s2.heap.objs.size (.lst [])) { s3 with heap := h', toks := s3.toks + ([] : List (Str × Value)).length } := inv_block I3 c h1 h2 f3 hns kp
  have st4 : tn 0 h' := T.keep 0 _ _ st3 fun b hb o e => kp b o e
  obtain ⟨W, ⟨m0, w0⟩, turn⟩ := q2 s2.heap.objs.size np
  obtain ⟨hg, hifs, helt⟩ := hb cl s3 (upd H2 s2.heap.objs.size (.lst [])) fp
  have noP : ∀ b ∈ fp, b ≠ s3.heap.objs.size := fun b hb => Nat.ne_of_lt (f3 b hb).2
  have stat : ∀ {H' : Hp}, (∀ b ∈ fp, H' b = none) → ∀ b ∈ fp, FpOk (cxC X N' scope cl s3 (upd H2 s2.heap.objs.size (.lst [])) fp pins) [] H' b := fun hn b hb => by
    obtain ⟨⟨_, g1, g2, g3, g4, g5⟩, g6⟩ := f3 b hb
    refine ⟨hn b hb, Nat.ne_of_lt g6, fun hm => ?_, .inl hb, fun x a e => g4 x a (h1 x a e), fun p hp => g5 p (by simpa [cxC] using hp)⟩
    rcases List.mem_cons.mp (I3.stkSub b hm) with z | z
    · exact g1 z
    · exact g2 z
  have loop : codeAny (model X.prog X.w) X.A (.compLoop (.ListComp elt [⟨target, iter, ifs, 0⟩] scope pos) 0 (.ref it) (.ref s2.heap.objs.size) (compEnvC scope cl s3.heap.objs.size X.env))
      (compPost (model X.prog X.w) X.A X.xe use Q' (.ref s2.heap.objs.size) s3.heap.objs.size) { s3 with heap := h', toks := s3.toks + ([] : List (Str × Value)).length } := by
    refine comp_loop (fun n s' => ∃ i H' σ', Inv (cxC X N' scope cl s3 (upd H2 s2.heap.objs.size (.lst [])) fp pins) [] (blk own fv σ) H' s' ∧ σ' = blk own fv σ ∧ tn i s'.heap ∧ (∀ b ∈ fp, H' b = none) ∧ W i n H') ?_ m0 ⟨0, _, _, J0, rfl, st4, fun b hb => (f3 b hb).1.1, w0⟩
    rintro n s5 ⟨i, H5, _, J5, rfl, st5, fr5, w5⟩
    rcases turn i n H5 w5 with ⟨stop, qn⟩ | ⟨go, step⟩
    · refine thn (T.done (cxC X N' scope cl s3 (upd H2 s2.heap.objs.size (.lst [])) fp pins) rfl rfl rfl hcalm i [] s5 _ H5 _ J5 (stat fr5) st5 stop) fun r s6 hr => ?_
      obtain ⟨rfl, J6⟩ := hr
      obtain ⟨I6, f6, m6, n6⟩ := inv_left I3 f3 J6
      exact fin _ _ H5 s6 m6 I6 f6 n6 qn
    · refine thn (T.item (cxC X N' scope cl s3 (upd H2 s2.heap.objs.size (.lst [])) fp pins) rfl rfl rfl hcalm i [] s5 _ H5 _ J5 (stat fr5) st5 go) fun r s6 hr => ?_
      obtain ⟨u, rfl, h6⟩ := hr
      refine thn h6 fun _ s7 h7 => ?_
      obtain ⟨x, H7, J7, r7, y7, st7, fr7⟩ := h7
      have J7' := J7.pinned (stat fr7) (T.obj _ _ st7)
      refine thn (hg _ s7 _ H7 x u _ J7' r7 (hgk _ _ _ _ (step x H7 y7))) fun _ s8 h8 => ?_
      obtain ⟨σ8, H8, J8, ⟨l8, k8⟩, q8⟩ := h8
      refine thn (hifs _ s8 σ8 H8 _ J8 q8) fun ok s9 h9 => ?_
      obtain ⟨H9, J9, q9⟩ := h9
      have weak : ∀ {H' : Hp} {s' : Shared}, Inv (cxC X N' scope cl s3 (upd H2 s2.heap.objs.size (.lst [])) fp pins) ([] ++ pinsAt fp s7.heap) σ8 H' s' →
          Inv (cxC X N' scope cl s3 (upd H2 s2.heap.objs.size (.lst [])) fp pins) [] (blk own fv σ) H' s' ∧ tn (i + 1) s'.heap ∧ ∀ b ∈ fp, H' b = none := fun {H' s'} J' => by
        refine ⟨J'.unpinned.weak l8.symm fun j v e => ?_, T.keep _ _ _ st7 fun b hb o e => (J'.pin (b, o) (List.mem_append_right _ (List.mem_append_right _ (mem_pinsAt hb e)))).1, fun b hb => ?_⟩
        · have hj : own.length ≤ j := Nat.le_of_not_lt fun hj => by
            unfold blk at e
            rw [List.getElem?_append_left (by simpa using hj), List.getElem?_map] at e
            cases z : own[j]? with
            | none => rw [z] at e; cases e
            | some y => rw [z] at e; cases e
          rw [k8 j hj]; exact e
        · obtain ⟨o, e, d⟩ := T.obj _ _ st7 b hb
          exact (J'.pin (b, o) (List.mem_append_right _ (List.mem_append_right _ (mem_pinsAt hb e)))).2.1
      cases ok with
      | false =>
        rw [if_neg Bool.false_ne_true] at q9 ⊢
        obtain ⟨m', hm, w9⟩ := q9
        obtain ⟨g1, g2, g3⟩ := weak J9
        exact ⟨m', hm, i + 1, H9, _, g1, rfl, g2, g3, w9⟩
      | true =>
        rw [if_pos rfl] at q9 ⊢
        refine thn (helt _ s9 σ8 H9 _ J9 q9) fun xv s10 h10 => ?_
        obtain ⟨v, H10, J10, r10, acc, ea, hl, m', hm, w10⟩ := h10
        refine thn (mt_append _ s10 σ8 H10 (.ref s2.heap.objs.size) [v] (.ref s2.heap.objs.size) [xv] (fun z H' => z = .non ∧ H' = upd H10 s2.heap.objs.size (.lst (acc ++ [v]))) J10 rfl (.cons r10 .nil) ⟨_, acc, v, rfl, rfl, ea, hl, rfl, rfl⟩) fun _ s11 h11 => ?_
        obtain ⟨z, H11, J11, _, _, rfl⟩ := h11
        obtain ⟨g1, g2, g3⟩ := weak J11
        exact ⟨m', hm, i + 1, _, _, g1, rfl, g2, g3, w10⟩
  exact codeAny_compStart_list loop (T.self X.A 0 _ _ _ st4 loop)

theorem pe_comp {X : Cx} {elt target iter : Expr} {ifs : List Expr} {scope : Scope} {pos : Pos} {N' own : List Str} {fv : FV} {wi : TI} {g : TG} {tc : TT} {te : TE}
    (c : CompOk X.env.scope X.N scope N' own fv) (hcalm : X.calm = true) (hi : PI X target iter wi)
    (hgk : ∀ x σ H Q, g x σ H Q → g x σ H fun σ' H' => (σ'.length = σ.length ∧ ∀ i, own.length ≤ i → σ'[i]? = σ[i]?) ∧ Q σ' H')
    (hb : ∀ pins cl s₁ H₁ fp, PG (cxC X N' scope cl s₁ H₁ fp pins) target g ∧ PIfs (cxC X N' scope cl s₁ H₁ fp pins) ifs tc ∧ PE (cxC X N' scope cl s₁ H₁ fp pins) elt te)
    (hs : ∀ x, foldedSetIterable iter X.env x = pure x := by intro _; rfl) : PE X (.ListComp elt [⟨target, iter, ifs, 0⟩] scope pos) (tComp wi g tc te own fv) := by
  intro pins s σ H Q I h
  rw [eval_ListComp]
  refine comp_core (use := none) (R := Q) c hcalm hi hgk (hb pins) hs I h fun p C H' s' m J f n q => ?_
  refine ⟨m, n, fun h' hs' => ⟨.ref p, H', J.turned (t' := s'.toks) (it := C) (fun b o hb e => (hs'.2 b hb).trans e) f.1 f.2.1 f.2.2.2.1 f.2.2.2.2.1 f.2.2.2.2.2, rfl, q⟩⟩

theorem ps_setcomp {X : Cx} {elt target iter : Expr} {ifs : List Expr} {scope : Scope} {pos spos py : Pos} {y : Str} {j : Nat} {N' own : List Str} {fv : FV} {wi : TI} {g : TG} {tc : TT} {te : TE}
    (hN : X.N.Nodup) (hj : X.N[j]? = some y) (hy : Loc X.env.scope y) (hsw : swapsWith (.ListComp elt [⟨target, iter, ifs, 0⟩] scope pos) (some (.Name y py)) spos.line X.env = pure true)
    (c : CompOk X.env.scope X.N scope N' own fv) (hcalm : X.calm = true) (hi : PI X target iter wi)
    (hgk : ∀ x σ H Q, g x σ H Q → g x σ H fun σ' H' => (σ'.length = σ.length ∧ ∀ i, own.length ≤ i → σ'[i]? = σ[i]?) ∧ Q σ' H')
    (hb : ∀ pins cl s₁ H₁ fp, PG (cxC X N' scope cl s₁ H₁ fp pins) target g ∧ PIfs (cxC X N' scope cl s₁ H₁ fp pins) ifs tc ∧ PE (cxC X N' scope cl s₁ H₁ fp pins) elt te)
    (hs : ∀ x, foldedSetIterable iter X.env x = pure x := by intro _; rfl) (hf : X.fn y = true ∨ X.env.scope.names.lookup y = some .local := by first | exact .inl rfl | exact .inr rfl | assumption) :
    PS X (.Assign [.Name y py] (.ListComp elt [⟨target, iter, ifs, 0⟩] scope pos) spos) (tAsg (tComp wi g tc te own fv) (gName j)) := by
  intro pins s σ H Dd I h
  rw [exec_Assign_Name_used _ _ _ _ hsw]
  refine wpAny_bind (wpAny_standAt (wpAny_bind ?_))
  show wpAny _ X.A (do let _ ← comprehension (.ListComp elt [⟨target, iter, ifs, 0⟩] scope pos) scope X.env _ (newList []) false (eval iter X.env) (some (assign (.Name y py) X.env))) _ _ s
  refine wpAny_bind (wpAny_mono (comp_core (use := some (assign (.Name y py) X.env)) (Q' := fun _ s' => SP X pins Dd .next s') c hcalm hi hgk (hb pins) hs I h fun p C H' s' m J f n q => ?_) (fun _ s' hq => wpAny_pure (wpAny_pure hq)) fun _ _ e => e)
  show wpAny _ X.A (assign (.Name y py) X.env (.ref p)) _ _ s'
  refine wpAny_assign_Name (store_ok2 J hN hj hy (v := .ref p) rfl (fun s'' J' hs'' => ?_) hf)
  obtain ⟨a, sb, ha⟩ := hs''
  have hC : C ≠ a := by
    rcases ha with z | z
    · rw [z]; exact f.2.1
    · exact fun w => f.2.2.2.2.1 _ _ z w.symm
  refine ⟨m, n.sameBut sb hC, fun h' hs' => ⟨_, H', J'.turned (t' := s''.toks) (it := C) (fun b o hb e => (hs'.2 b hb).trans e) f.1 f.2.1 f.2.2.2.1 f.2.2.2.2.1 f.2.2.2.2.2, q⟩⟩

/-! ### .. over data -/
/-- the results, item by item: none where the test says no. The elements leave the heap -/
def cp3 (wi : TI3) (g : TG3) (tc : TT3) (te : TE3) (own : List Str) (fv : FV) : TE3 := fun σ H Q => wi σ H fun ds keep H1 => (∀ H2 : Hp3, Sub3 H1 H2 → keep H2) ∧ ds.length ≤ 1000 ∧ ∃ rs : List (Option D), rs.length = ds.length ∧
  (∀ (i : Nat) (d : D), ds[i]? = some d → ∀ H2 : Hp3, Sub3 H1 H2 → g d (own.map (fun _ => none) ++ fv.map fun p => (σ[p.1]?).join) H2 fun σ2 H4 => tc σ2 H4 fun b H5 =>
    if b = true then te σ2 H5 fun v H6 => Sub3 H2 H6 ∧ rs[i]? = some (some v) else Sub3 H2 H5 ∧ rs[i]? = some none) ∧
  ∀ p, H1 p = none → Q (.ref p) (upd3 H1 p (.lst (rs.filterMap id)))
theorem sr_blk {K : PySem.W.Frag} {H : Hp} {σ3 : St3} {σ : St} {own : List Str} {fv : FV} (s : SR K H σ3 σ) : SR K H (own.map (fun _ => none) ++ fv.map fun p => (σ3[p.1]?).join) (blk own fv σ) := by
  refine ⟨by simp [blk], fun i d h => ?_⟩
  have hi : ¬ i < own.length := fun hi => by
    rw [List.getElem?_append_left (by simpa using hi), List.getElem?_map] at h
    cases z : own[i]? with
    | none => rw [z] at h; cases h
    | some y => rw [z] at h; cases h
  rw [List.getElem?_append_right (by simpa using hi), List.length_map, List.getElem?_map] at h
  unfold blk
  rw [List.getElem?_append_right (by simpa using hi), List.length_map, List.getElem?_map]
  cases z : fv[i - own.length]? with
  | none => rw [z] at h; cases h
  | some p =>
    rw [z] at h
    have h' : (σ3[p.1]?).join = some d := Option.some.inj h
    have e : σ3[p.1]? = some (some d) := by
      cases q : σ3[p.1]? with
      | none => rw [q] at h'; cases h'
      | some o => rw [q] at h'; rw [show o = some d from h']
    obtain ⟨v, hv, rv⟩ := s.get _ _ e
    exact ⟨v, by show some (σ[p.1]?).join = some (some v); rw [hv]; rfl, rv⟩
theorem filterMap_take_succ {rs : List (Option D)} {i : Nat} {o : Option D} (h : rs[i]? = some o) : (rs.take (i + 1)).filterMap id = (rs.take i).filterMap id ++ o.toList := by
  rw [List.take_add_one, h, List.filterMap_append]
  cases o <;> rfl
theorem lift_comp {K : PySem.W.Frag} {wi : TI3} {g : TG3} {g2 : TG} {tc : TT3} {te : TE3} {own : List Str} {fv : FV} {σ : St} {H : Hp} {Q : VK} (hgr : ∀ v σ H Q, liftG K g v σ H Q → g2 v σ H Q) (h : liftE K (cp3 wi g tc te own fv) σ H Q) : tComp (liftI K wi) g2 (liftT K tc) (liftE K te) own fv σ H Q := by
  obtain ⟨σ3, H3, Q3, sr, hr, t, k⟩ := h
  refine ⟨σ3, H3, _, sr, hr, t, fun ds keep J H3' H' tk' hr' ok q p np => ?_⟩
  obtain ⟨hkeep, hlen, rs, hrl, hel, hfin⟩ := q
  have np3 : H3' p = none := hr'.fresh np
  have hrs : ∀ i, ((rs.take i).filterMap id).length ≤ i := fun i => Nat.le_trans (List.length_filterMap_le _ _) (by rw [List.length_take]; omega)
  refine ⟨fun i m H2 => m = ds.length - i ∧ i ≤ ds.length ∧ TK H' H2 ∧ HR K (upd3 H3' p (.lst ((rs.take i).filterMap id))) H2, ⟨ds.length, by simp, Nat.zero_le _, TK.fresh np, hr'.setL (TK.fresh np) (.nil)⟩, ?_⟩
  rintro i m H2 ⟨rfl, hi, tk2, hr2⟩
  have sub2 : Sub3 H3' (upd3 H3' p (.lst ((rs.take i).filterMap id))) := Sub3.fresh np3
  obtain ⟨go, stop⟩ := ok _ H2 tk2 hr2 (hkeep _ sub2)
  by_cases hlt : i < ds.length
  · obtain ⟨g1, g2⟩ := go i hlt
    refine .inr ⟨g1, fun x H2' y => ?_⟩
    obtain ⟨e, d, ed, rd⟩ := g2 x H2' y
    subst e
    refine hgr _ _ _ _ ⟨d, _, _, _, rd, (sr_blk sr).mono (tk'.trans tk2), hr2, hel i d ed _ sub2, fun σ3a σa H3a Ha tka sra hra qa => ⟨σ3a, H3a, _, sra, hra, qa, fun b H3b Hb tkb hrb qb => ?_⟩⟩
    cases b with
    | true =>
      rw [if_pos rfl] at qb ⊢
      refine ⟨σ3a, H3b, _, sra.mono tkb, hrb, qb, fun v u H3c Hc tkc hrc rv qc => ?_⟩
      obtain ⟨sub, ers⟩ := qc
      obtain ⟨acc, gacc, racc⟩ := hrc p _ (sub p _ upd3_same)
      refine ⟨acc, gacc, ?_, ds.length - (i + 1), by omega, rfl, hlt, ((tk2.trans tka).trans (tkb.trans tkc)).trans (TK.lst gacc), ?_⟩
      · rw [← racc.length]
        exact small1000 (Nat.le_trans (hrs i) (Nat.le_trans hi hlen))
      · rw [filterMap_take_succ ers, ← upd3_upd3]
        exact (hrc.sub sub).setL (TK.lst gacc) ((racc.snoc rv).mono (TK.lst gacc))
    | false =>
      rw [if_neg Bool.false_ne_true] at qb ⊢
      obtain ⟨sub, ers⟩ := qb
      refine ⟨ds.length - (i + 1), by omega, rfl, hlt, (tk2.trans tka).trans tkb, ?_⟩
      rw [filterMap_take_succ ers]
      simp only [Option.toList, List.append_nil]
      exact hrb.sub sub
  · have e : i = ds.length := by omega
    subst e
    refine .inl ⟨stop, k _ _ _ _ (tk'.trans tk2) hr2 (.ref p) ?_⟩
    rw [List.take_of_length_le (by rw [hrl]; exact Nat.le_refl _)]
    exact hfin p np3
def yes3 : TT3 := fun _ H Q => Q true H
def PIfs3 (X : Cx) (ifs : List Expr) (t : TT3) : Prop := PIfs X ifs (liftT X.K t)
theorem ifs3_nil {X : Cx} : PIfs3 X [] yes3 := fun pins s σ H Q I h => by
  obtain ⟨σ3, H3, Q3, sr, hr, t, k⟩ := h
  exact pifs_nil pins s σ H Q I (k _ _ _ TK.refl hr t)
theorem ifs3_one {X : Cx} {c : Expr} {t : TT3} (h : PT3 X c t) : PIfs3 X [c] t := pifs_one h
theorem gr_name {K : PySem.W.Frag} {i : Nat} : ∀ v σ H Q, liftG K (gn3 i) v σ H Q → gName i v σ H Q := fun _ _ _ _ ⟨_, _, _, _, rd, sr, hr, t, k⟩ => k _ _ _ _ TK.refl (sr.set i rd) hr t
theorem gk_name {n i : Nat} (hi : i < n) : ∀ x σ H Q, gName i x σ H Q → gName i x σ H fun σ' H' => (σ'.length = σ.length ∧ ∀ j, n ≤ j → σ'[j]? = σ[j]?) ∧ Q σ' H' := fun x σ H Q h =>
  ⟨⟨by simp, fun j hj => List.getElem?_set_ne (by omega)⟩, h⟩
theorem gr_pair {K : PySem.W.Frag} {i j : Nat} : ∀ v σ H Q, liftG K (g2_3 i j) v σ H Q → gTup K 2 (gCons (gName i) (gCons (gName j) gNil)) v σ H Q := fun v σ H Q ⟨d, σ3, H3, Q3, rd, sr, hr, t, k⟩ => by
  cases rd with
  | tup ha ra =>
    cases ra with
    | nil => exact t.elim
    | cons r1 ra =>
      cases ra with
      | nil => exact t.elim
      | cons r2 ra =>
        cases ra with
        | cons _ _ => exact t.elim
        | nil => exact ⟨_, _, rfl, SqT.of ha, rfl, _, _, rfl, _, _, rfl, rfl, k _ _ _ _ TK.refl ((sr.set i r1).set j r2) hr t⟩
  | _ => exact t.elim
theorem gk_pair {K : PySem.W.Frag} {n i j : Nat} (hi : i < n) (hj : j < n) : ∀ x σ H Q, gTup K 2 (gCons (gName i) (gCons (gName j) gNil)) x σ H Q →
    gTup K 2 (gCons (gName i) (gCons (gName j) gNil)) x σ H fun σ' H' => (σ'.length = σ.length ∧ ∀ l, n ≤ l → σ'[l]? = σ[l]?) ∧ Q σ' H' := fun x σ H Q h => by
  obtain ⟨a, xs, rfl, h1, h2, v, r, rfl, v', r', rfl, e, q⟩ := h
  refine ⟨a, _, rfl, h1, h2, v, _, rfl, v', _, rfl, e, ⟨by simp, fun l hl => ?_⟩, q⟩
  rw [List.getElem?_set_ne (by omega), List.getElem?_set_ne (by omega)]
section
variable {X : Cx} {elt iter : Expr} {ifs : List Expr} {scope : Scope} {pos px py pt spos : Pos} {x x' y : Str} {fv : FV} {wi : TI3} {tc : TT3} {te : TE3} {kk : Nat}
/-- [elt for x in iter if ..] -/
theorem p3_comp (c : CompOk X.env.scope X.N scope (x :: fv.map (·.2)) [x] fv) (hcalm : X.calm = true) (hi : PI3 X (.Name x px) iter wi)
    (hifs : ∀ pins cl s₁ H₁ fp, PIfs3 (cxC X (x :: fv.map (·.2)) scope cl s₁ H₁ fp pins) ifs tc) (helt : ∀ pins cl s₁ H₁ fp, PE3 (cxC X (x :: fv.map (·.2)) scope cl s₁ H₁ fp pins) elt te)
    (hx : (relabel scope X.env).names.lookup x = some .local := by rfl) (hs : ∀ x, foldedSetIterable iter X.env x = pure x := by intro _; rfl) : PE3 X (.ListComp elt [⟨.Name x px, iter, ifs, 0⟩] scope pos) (cp3 wi (gn3 0) tc te [x] fv) :=
  pe_imp (pe_comp (g := gName 0) (tc := liftT X.K tc) (te := liftE X.K te) c hcalm hi (gk_name (Nat.zero_lt_one)) (fun pins cl s₁ H₁ fp => ⟨pg_name c.nd rfl (.inl hx) (.inr hx), hifs pins cl s₁ H₁ fp, helt pins cl s₁ H₁ fp⟩) hs) fun _ _ _ h => lift_comp gr_name h
theorem s3_setcomp (j : Nat) (hN : X.N.Nodup) (c : CompOk X.env.scope X.N scope (x :: fv.map (·.2)) [x] fv) (hcalm : X.calm = true) (hi : PI3 X (.Name x px) iter wi)
    (hifs : ∀ pins cl s₁ H₁ fp, PIfs3 (cxC X (x :: fv.map (·.2)) scope cl s₁ H₁ fp pins) ifs tc) (helt : ∀ pins cl s₁ H₁ fp, PE3 (cxC X (x :: fv.map (·.2)) scope cl s₁ H₁ fp pins) elt te)
    (hj : X.N[j]? = some y := by rfl) (hy : Loc X.env.scope y := by first | exact Or.inl rfl | exact Or.inr rfl) (hsw : swapsWith (.ListComp elt [⟨.Name x px, iter, ifs, 0⟩] scope pos) (some (.Name y py)) spos.line X.env = pure true := by rfl)
    (hx : (relabel scope X.env).names.lookup x = some .local := by rfl) (hs : ∀ x, foldedSetIterable iter X.env x = pure x := by intro _; rfl) (hf : X.fn y = true ∨ X.env.scope.names.lookup y = some .local := by first | exact .inl rfl | exact .inr rfl | assumption) :
    PS3 X (.Assign [.Name y py] (.ListComp elt [⟨.Name x px, iter, ifs, 0⟩] scope pos) spos) (st3 j (cp3 wi (gn3 0) tc te [x] fv)) :=
  ps_imp (ps_setcomp (g := gName 0) (tc := liftT X.K tc) (te := liftE X.K te) hN hj hy hsw c hcalm hi (gk_name (Nat.zero_lt_one)) (fun pins cl s₁ H₁ fp => ⟨pg_name c.nd rfl (.inl hx) (.inr hx), hifs pins cl s₁ H₁ fp, helt pins cl s₁ H₁ fp⟩) hs hf)
    fun _ _ _ ⟨σ3, H3, D3, sr, hr, t, k⟩ => lift_comp gr_name ⟨σ3, H3, _, sr, hr, t, fun x v H3a Ha tka hra rx qa => k.nx _ _ _ _ tka ((sr.mono tka).set j rx) hra qa⟩
/-- [elt for x, x' in iter if ..] -/
theorem p3_comp2 (c : CompOk X.env.scope X.N scope (x :: x' :: fv.map (·.2)) [x, x'] fv) (hcalm : X.calm = true) (hi : PI3 X (.Tuple [.Name x px, .Name x' py] kk pt) iter wi)
    (hifs : ∀ pins cl s₁ H₁ fp, PIfs3 (cxC X (x :: x' :: fv.map (·.2)) scope cl s₁ H₁ fp pins) ifs tc) (helt : ∀ pins cl s₁ H₁ fp, PE3 (cxC X (x :: x' :: fv.map (·.2)) scope cl s₁ H₁ fp pins) elt te)
    (hx : (relabel scope X.env).names.lookup x = some .local := by rfl) (hx' : (relabel scope X.env).names.lookup x' = some .local := by rfl) (hs : ∀ x, foldedSetIterable iter X.env x = pure x := by intro _; rfl) :
    PE3 X (.ListComp elt [⟨.Tuple [.Name x px, .Name x' py] kk pt, iter, ifs, 0⟩] scope pos) (cp3 wi (g2_3 0 1) tc te [x, x'] fv) :=
  pe_imp (pe_comp (g := gTup X.K 2 (gCons (gName 0) (gCons (gName 1) gNil))) (tc := liftT X.K tc) (te := liftE X.K te) c hcalm hi (gk_pair (show 0 < 2 by decide) (show 1 < 2 by decide))
    (fun pins cl s₁ H₁ fp => ⟨pg_tup (n := 2) hcalm (pgs_cons (pg_name c.nd rfl (.inl hx) (.inr hx)) (pgs_cons (pg_name c.nd rfl (.inl hx') (.inr hx')) pgs_nil)), hifs pins cl s₁ H₁ fp, helt pins cl s₁ H₁ fp⟩) hs) fun _ _ _ h => lift_comp gr_pair h
end
end L3

namespace L3
open PySem L2
def i3sub : R3 := rI30 fun i j => .int (i - j)
def i3mul : R3 := rI3 CMul fun i j => .int (i * j)
def i3div : R3 := rI3 CDiv fun i j => .int (i / j)
def i3mod : R3 := rI3 (fun _ j => 0 < j) fun i j => .int (i % j)
def i3pow : R3 := rI3 CPow fun i j => .int (i ^ j.toNat)
def i3le : R3 := rI30 fun i j => .bl (decide (i ≤ j))
def i3gt : R3 := rI30 fun i j => .bl (decide (j < i))
def i3ge : R3 := rI30 fun i j => .bl (decide (j ≤ i))
theorem intsOf_map : ∀ ns : List Int, intsOf (ns.map D.int) = some ns
  | [] => rfl
  | n :: ns => by simp only [List.map_cons, intsOf, intsOf_map ns, Option.map_some]
/-- a list's least (greatest) item -/
def minL : List Int → Int
  | [] => 0
  | [x] => x
  | x :: y :: r => min x (minL (y :: r))
def maxL : List Int → Int
  | [] => 0
  | [x] => x
  | x :: y :: r => max x (maxL (y :: r))
theorem minL_le' : ∀ {ns : List Int} {a : Int}, a ∈ ns → minL ns ≤ a
  | [x], a, h => by simp at h; subst h; exact Int.le_refl _
  | x :: y :: r, a, h => by
    rcases List.mem_cons.mp h with rfl | h
    · exact Int.min_le_left _ _
    · exact Int.le_trans (Int.min_le_right _ _) (minL_le' (ns := y :: r) h)
theorem minL_mem' : ∀ {ns : List Int}, ns ≠ [] → minL ns ∈ ns
  | [x], _ => List.mem_cons_self
  | x :: y :: r, _ => by
    have ih := minL_mem' (ns := y :: r) (by simp)
    have e : minL (x :: y :: r) = min x (minL (y :: r)) := rfl
    rw [e]
    rcases Int.le_total x (minL (y :: r)) with h | h
    · rw [Int.min_eq_left h]; exact List.mem_cons_self
    · rw [Int.min_eq_right h]; exact List.mem_cons_of_mem _ ih
theorem maxL_ge' : ∀ {ns : List Int} {a : Int}, a ∈ ns → a ≤ maxL ns
  | [x], a, h => by simp at h; subst h; exact Int.le_refl _
  | x :: y :: r, a, h => by
    rcases List.mem_cons.mp h with rfl | h
    · exact Int.le_max_left _ _
    · exact Int.le_trans (maxL_ge' (ns := y :: r) h) (Int.le_max_right _ _)
theorem maxL_mem' : ∀ {ns : List Int}, ns ≠ [] → maxL ns ∈ ns
  | [x], _ => List.mem_cons_self
  | x :: y :: r, _ => by
    have ih := maxL_mem' (ns := y :: r) (by simp)
    have e : maxL (x :: y :: r) = max x (maxL (y :: r)) := rfl
    rw [e]
    rcases Int.le_total x (maxL (y :: r)) with h | h
    · rw [Int.max_eq_right h]; exact List.mem_cons_of_mem _ ih
    · rw [Int.max_eq_left h]; exact List.mem_cons_self
def r3mm (f : List Int → Int) : List D → Hp3 → VK3 → Prop := fun ds H Q => match ds with
  | [.ref a] => (match H a with
    | some (.lst xs) => (match intsOf xs with
      | some ns => ns ≠ [] ∧ Q (.int (f ns)) H
      | none => False)
    | _ => False)
  | _ => False
abbrev r3min : List D → Hp3 → VK3 → Prop := r3mm minL
abbrev r3max : List D → Hp3 → VK3 → Prop := r3mm maxL
def r3ins : D → List D → Hp3 → VK3 → Prop := fun x xs H Q => match x, xs with
  | .ref a, [.int i, y] => (match H a with
    | some (.lst ds) => ((0 ≤ i ∧ i ≤ ds.length) ∧ ds.length < 1000) ∧ Q .non (upd3 H a (.lst (ds.take i.toNat ++ y :: ds.drop i.toNat)))
    | _ => False)
  | _, _ => False
/-- the pairs of a list of pairs -/
def pr (x y : Int) : D := .tup [.int x, .int y]
abbrev Pt := Int × Int
def prP (p : Pt) : D := .tup [.int p.1, .int p.2]
def ptsOf : List D → Option (List Pt)
  | [] => some []
  | .tup [.int x, .int y] :: ds => (ptsOf ds).map ((x, y) :: ·)
  | _ :: _ => none
theorem ptsOf_map : ∀ ps : List Pt, ptsOf (ps.map prP) = some ps
  | [] => rfl
  | p :: ps => by simp only [List.map_cons, prP, ptsOf]; rw [ptsOf_map ps]; rfl
theorem ptsOf_inv : ∀ {ds : List D} {ps : List Pt}, ptsOf ds = some ps → ds = ps.map prP := by
  intro ds
  induction ds with
  | nil => intro ps h; simp only [ptsOf, Option.some.injEq] at h; subst h; rfl
  | cons d ds ih =>
    intro ps h
    unfold ptsOf at h
    split at h
    · rename_i a; cases a
    · rename_i x y r heq
      cases heq
      simp only [Option.map_eq_some_iff] at h
      obtain ⟨qs, h1, h2⟩ := h
      subst h2
      rw [ih h1]; rfl
    · cases h
/-! ### the order of pairs: the second number first -/
def ltc (c r : Pt) : Bool := HT.lexLt [r.2, r.1] [c.2, c.1]
def insP (row : List Pt) (c : Pt) : List Pt := row.takeWhile (ltc c) ++ c :: row.dropWhile (ltc c)
def isort (ps : List Pt) : List Pt := ps.foldl insP []
theorem ltc_iff (c r : Pt) : ltc c r = true ↔ r.2 < c.2 ∨ (r.2 = c.2 ∧ r.1 < c.1) := by
  unfold ltc HT.lexLt
  by_cases h : r.2 = c.2
  · rw [if_pos h]
    unfold HT.lexLt
    by_cases h2 : r.1 = c.1
    · rw [if_pos h2]; unfold HT.lexLt; simp [h, h2]
    · rw [if_neg h2]; simp [h]
  · rw [if_neg h]
    simp [h]
theorem ltc_false (c r : Pt) : ltc c r = false ↔ c.2 < r.2 ∨ (c.2 = r.2 ∧ c.1 ≤ r.1) := by
  rw [← Bool.not_eq_true, ltc_iff]
  omega
theorem take_while_eq {p : Pt → Bool} : ∀ {row : List Pt} {k : Nat}, k ≤ row.length → (∀ r ∈ row.take k, p r = true) → (∀ h : k < row.length, p (row[k]'h) = false) → row.takeWhile p = row.take k ∧ row.dropWhile p = row.drop k
  | [], k, _, _, _ => by simp
  | r :: row, 0, _, _, h => by
    have := h (by simp)
    simp at this
    simp [List.takeWhile_cons, List.dropWhile_cons, this]
  | r :: row, k + 1, hk, h1, h2 => by
    have hr : p r = true := h1 r (by simp)
    have ih := take_while_eq (p := p) (row := row) (k := k) (by simpa using hk) (fun x hx => h1 x (by simp [hx])) (fun h => by have := h2 (by simpa using h); simpa using this)
    simp [List.takeWhile_cons, List.dropWhile_cons, hr, ih.1, ih.2]
theorem insP_perm (row : List Pt) (c : Pt) : (insP row c).Perm (c :: row) := by
  unfold insP
  have e := List.takeWhile_append_dropWhile (p := ltc c) (l := row)
  have h : (row.takeWhile (ltc c) ++ c :: row.dropWhile (ltc c)).Perm (c :: (row.takeWhile (ltc c) ++ row.dropWhile (ltc c))) := List.perm_middle
  rw [e] at h
  exact h
theorem insP_len (row : List Pt) (c : Pt) : (insP row c).length = row.length + 1 := by
  have := (insP_perm row c).length_eq
  simpa using this
theorem foldl_ins_perm : ∀ (ps row : List Pt), (ps.foldl insP row).Perm (row ++ ps)
  | [], row => by simp
  | p :: ps, row => by
    rw [List.foldl_cons]
    refine (foldl_ins_perm ps _).trans ?_
    refine ((insP_perm row p).append_right ps).trans ?_
    rw [List.cons_append]
    exact List.perm_middle.symm
theorem isort_perm (ps : List Pt) : (isort ps).Perm ps := by
  have := foldl_ins_perm ps []
  simpa [isort] using this
theorem isort_len (ps : List Pt) : (isort ps).length = ps.length := (isort_perm ps).length_eq
theorem isort_take {ps : List Pt} {i : Nat} {c : Pt} (h : ps[i]? = some c) : isort (ps.take (i + 1)) = insP (isort (ps.take i)) c := by
  unfold isort
  rw [List.take_add_one, h, List.foldl_append]
  rfl
/-- a comes no later than b -/
def leP (a b : Pt) : Prop := ltc a b = false
theorem leP_trans {a b c : Pt} (h1 : leP a b) (h2 : leP b c) : leP a c := by
  unfold leP at *
  rw [ltc_false] at *
  omega
theorem leP_of_ltc {c r : Pt} (h : ltc c r = true) : leP r c := by
  unfold leP
  rw [ltc_iff] at h
  rw [ltc_false]
  omega
theorem leP_antisymm {a b : Pt} (h1 : leP a b) (h2 : leP b a) : a = b := by
  unfold leP at *
  rw [ltc_false] at *
  exact Prod.ext (by omega) (by omega)
theorem insP_sorted {row : List Pt} {c : Pt} (h : row.Pairwise leP) : (insP row c).Pairwise leP := by
  unfold insP
  have e := List.takeWhile_append_dropWhile (p := ltc c) (l := row)
  have ht : ∀ r ∈ row.takeWhile (ltc c), ltc c r = true := fun r hr => by
    have := List.all_takeWhile (p := ltc c) (l := row)
    rw [List.all_eq_true] at this
    exact this r hr
  have hd : ∀ r ∈ row.dropWhile (ltc c), leP c r := by
    have hs : (row.dropWhile (ltc c)).Pairwise leP := by rw [← e] at h; exact (List.pairwise_append.mp h).2.1
    cases hq : row.dropWhile (ltc c) with
    | nil => intro r hr; cases hr
    | cons x xs =>
      have hx : ltc c x = false := by
        have := List.head?_dropWhile_not (ltc c) row
        rw [hq] at this
        simpa using this
      rw [hq] at hs
      intro r hr
      rcases List.mem_cons.mp hr with rfl | hr
      · exact hx
      · exact leP_trans hx ((List.pairwise_cons.mp hs).1 r hr)
  rw [← e] at h
  obtain ⟨h1, h2, h3⟩ := List.pairwise_append.mp h
  refine List.pairwise_append.mpr ⟨h1, List.pairwise_cons.mpr ⟨hd, h2⟩, fun a ha b hb => ?_⟩
  rcases List.mem_cons.mp hb with rfl | hb
  · exact leP_of_ltc (ht a ha)
  · exact h3 a ha b hb
theorem foldl_ins_sorted : ∀ (ps row : List Pt), row.Pairwise leP → (ps.foldl insP row).Pairwise leP
  | [], _, h => h
  | _ :: ps, _, h => foldl_ins_sorted ps _ (insP_sorted h)
theorem isort_sorted (ps : List Pt) : (isort ps).Pairwise leP := foldl_ins_sorted ps [] List.Pairwise.nil
theorem sorted_unique {as bs : List Pt} (hp : as.Perm bs) (ha : as.Pairwise leP) (hb : bs.Pairwise leP) : as = bs := hp.eq_of_pairwise (fun _ _ _ _ h1 h2 => leP_antisymm h1 h2) ha hb
theorem isort_of {as ps : List Pt} (hp : as.Perm ps) (ha : as.Pairwise leP) : isort ps = as := sorted_unique ((isort_perm ps).trans hp.symm) (isort_sorted ps) ha
/-- the order as one number, where the first numbers stay within M -/
def zc (M : Int) (c : Pt) : Int := c.2 * (2 * M + 1) + c.1
theorem zc_lt {M : Int} {c r : Pt} (hc : -M ≤ c.1 ∧ c.1 ≤ M) (hr : -M ≤ r.1 ∧ r.1 ≤ M) : ltc c r = decide (zc M r < zc M c) := by
  have hB : 0 < 2 * M + 1 := by omega
  rw [Bool.eq_iff_iff, ltc_iff, decide_eq_true_iff]
  unfold zc
  constructor
  · rintro (h | ⟨h1, h2⟩)
    · have := Int.mul_le_mul_of_nonneg_right (show r.2 + 1 ≤ c.2 by omega) (Int.le_of_lt hB)
      rw [Int.add_mul, Int.one_mul] at this
      omega
    · rw [h1]; omega
  · intro h
    by_cases h1 : r.2 < c.2
    · exact .inl h1
    · by_cases h2 : r.2 = c.2
      · rw [h2] at h; exact .inr ⟨h2, by omega⟩
      · exfalso
        have := Int.mul_le_mul_of_nonneg_right (show c.2 + 1 ≤ r.2 by omega) (Int.le_of_lt hB)
        rw [Int.add_mul, Int.one_mul] at this
        omega
theorem bound_ex : ∀ ps : List Pt, ∃ M : Int, 0 ≤ M ∧ ∀ c ∈ ps, -M ≤ c.1 ∧ c.1 ≤ M
  | [] => ⟨0, by omega, fun _ h => nomatch h⟩
  | p :: ps => by
    obtain ⟨M, h0, h⟩ := bound_ex ps
    refine ⟨M + p.1.natAbs, by omega, fun c hc => ?_⟩
    rcases List.mem_cons.mp hc with rfl | hc
    · omega
    · have := h c hc; omega
/-- the key of a pair: its numbers the other way round -/
def KeyOk (sp : Sp3) : Prop := ∀ (c : Pt) (H3 : Hp3) (Q3 : VK3), Q3 (.tup [.int c.2, .int c.1]) H3 → sp [prP c] H3 Q3
def sok (sp : Sp3) (x : D) (H1 : Hp3) (Q : VK3) : Prop := match x with
  | .ref a => (match H1 a with
    | some (.lst ds) => (match ptsOf ds with
      | some ps => KeyOk sp ∧ ps.length < 64 ∧ ∀ p, H1 p = none → Q (.ref p) (upd3 H1 p (.lst ((isort ps).map prP)))
      | none => False)
    | _ => False)
  | _ => False
def so3 (sp : Sp3) (te : TE3) : TE3 := fun σ H Q => te σ H fun x H1 => sok sp x H1 Q
end L3

namespace L3
open PySem PySem.Spec PyProof.Rows L2
section
variable {X : Cx}
/-! ### insert -/
def rInsert : V → List V → Hp → VK → Prop := fun x vs H Q => ∃ l xs i y, x = .ref l ∧ vs = [.int i, y] ∧ H l = some (.lst xs) ∧ (0 ≤ i ∧ i ≤ xs.length) ∧ xs.length < sizeLine ∧ Q .non (upd H l (.lst (xs.take i.toNat ++ y :: xs.drop i.toNat)))
theorem mt_insert : MtM X "list.insert" rInsert := by
  intro pins s σ H x vs v us Q I rx rv h
  obtain ⟨l, xs, i, y, rfl, rfl, hH, hi, hz, q⟩ := h
  cases rx
  obtain ⟨u, w', rfl, ru, ry⟩ := rv.two
  obtain ⟨t, rfl⟩ := ru
  obtain ⟨z, its, n, r, hl, e⟩ := I.lstM hH
  have hs := sizeLine_eq
  have hfit : Builtin.List.listFitsIndex i = true := by
    unfold Builtin.List.listFitsIndex
    simp only [Bool.and_eq_true, decide_eq_true_eq]
    constructor <;> omega
  refine call_meets PySem.F.slot_list_insert ⟨_, e, rfl⟩ PySem.F.entry_list_insert (PySem.F.args_list_insert_3 _ _ _)
    (PySem.AutoSeq1.list_insert_list_int_val_1 l its.toArray n i t w' (by simp [hfit]) (by rw [List.size_toArray]; omega)) ⟨e, ?_⟩
  refine ⟨.non, _, I.lset (its' := its.take i.toNat ++ w' :: its.drop i.toNat) hH e ?_ ((r.take _).append (.cons ry (r.drop _))) ?_, rfl, q⟩
  · have hk : (if i < 0 then (i + (its.toArray.size : Int)).toNat else min i.toNat its.toArray.size) = i.toNat := by
      rw [if_neg (by omega), List.size_toArray]; omega
    show (its.toArray.extract 0 (if i < 0 then (i + (its.toArray.size : Int)).toNat else min i.toNat its.toArray.size)).push w' ++ its.toArray.extract (if i < 0 then (i + (its.toArray.size : Int)).toNat else min i.toNat its.toArray.size) = _
    rw [hk]
    apply Array.ext'
    simp
    exact List.take_of_length_le (by rw [List.length_drop]; exact Nat.le_refl _)
  · simp only [List.length_append, List.length_cons, List.length_take, List.length_drop]
    omega
theorem mt3_ins : MtR X "list.insert" (liftM X.K r3ins) := by
  intro pins s σ H x xs v us Q I rx rs h
  obtain ⟨d, ds, H3, Q3, hr, rd, rds, t, k⟩ := h
  cases rd with
  | ref a =>
    cases rds with
    | nil => exact t.elim
    | cons r1 r2 =>
      cases r2 with
      | nil => cases r1 <;> exact t.elim
      | cons r2 r3 =>
        cases r3 with
        | cons _ _ => cases r1 <;> exact t.elim
        | nil =>
          cases r1 with
          | int i =>
            simp only [r3ins] at t
            split at t
            · rename_i ds ha
              obtain ⟨vs, ga, ra⟩ := hr a _ ha
              obtain ⟨⟨hi, hl⟩, q⟩ := t
              exact mt_insert pins s σ H _ _ v us Q I rx rs ⟨a, vs, i, _, rfl, rfl, ga, by rw [← ra.length]; exact hi, by rw [← ra.length]; exact small1000 (Nat.le_of_lt hl),
                k _ _ _ _ (TK.lst ga) (hr.setL (TK.lst ga) (((ra.take _).append (.cons r2 (ra.drop _))).mono (TK.lst ga))) .non q⟩
            · exact t.elim
          | _ => exact t.elim
  | _ => exact t.elim
/-! ### min, max of a list of ints -/
theorem minL_le : ∀ {ns : List Int} {a : Int}, a ∈ ns → minL ns ≤ a
  | [x], a, h => by simp at h; subst h; exact Int.le_refl _
  | x :: y :: r, a, h => by
    rcases List.mem_cons.mp h with rfl | h
    · exact Int.min_le_left _ _
    · exact Int.le_trans (Int.min_le_right _ _) (minL_le (ns := y :: r) h)
theorem minL_mem : ∀ {ns : List Int}, ns ≠ [] → minL ns ∈ ns
  | [x], _ => List.mem_cons_self
  | x :: y :: r, _ => by
    have ih := minL_mem (ns := y :: r) (by simp)
    have e : minL (x :: y :: r) = min x (minL (y :: r)) := rfl
    rw [e]
    rcases Int.le_total x (minL (y :: r)) with h | h
    · rw [Int.min_eq_left h]; exact List.mem_cons_self
    · rw [Int.min_eq_right h]; exact List.mem_cons_of_mem _ ih
theorem maxL_ge : ∀ {ns : List Int} {a : Int}, a ∈ ns → a ≤ maxL ns
  | [x], a, h => by simp at h; subst h; exact Int.le_refl _
  | x :: y :: r, a, h => by
    rcases List.mem_cons.mp h with rfl | h
    · exact Int.le_max_left _ _
    · exact Int.le_trans (maxL_ge (ns := y :: r) h) (Int.le_max_right _ _)
theorem maxL_mem : ∀ {ns : List Int}, ns ≠ [] → maxL ns ∈ ns
  | [x], _ => List.mem_cons_self
  | x :: y :: r, _ => by
    have ih := maxL_mem (ns := y :: r) (by simp)
    have e : maxL (x :: y :: r) = max x (maxL (y :: r)) := rfl
    rw [e]
    rcases Int.le_total x (maxL (y :: r)) with h | h
    · rw [Int.max_eq_right h]; exact List.mem_cons_of_mem _ ih
    · rw [Int.max_eq_left h]; exact List.mem_cons_self
theorem kept_all {g h h' : Heap} {L : Addr} {m : Str → Option Value} (k : ∀ b o, g.get? b = some o → h.get? b = some o) (F : Fr g L h' m) (N : News g L h' (allNews g h L)) (e : h.get? L = h'.get? L) : ∀ b o, h.get? b = some o → h'.get? b = some o := fun b o q => by
  by_cases hb : b = L
  · subst hb; rw [← e]; exact q
  · cases z : g.get? b with
    | some u =>
      have := k b u z
      rw [q] at this; cases this
      exact F.keep b _ z
    | none => exact (N (b, o) (mem_allNews hb z q)).1
theorem call_minL (hc : X.calm = true) : CallR X (.builtin "min") (fun xs H Q => ∃ a ns, xs = [.ref a] ∧ SqL X.K H a (ns.map V.int) ∧ ns ≠ [] ∧ Q (.int (minL ns)) H) := by
  intro pins s σ H xs us Q I r h
  obtain ⟨a, ns, rfl, hq, hne, q⟩ := h
  obtain ⟨u, rfl, ru⟩ := vals1 r
  cases ru
  obtain ⟨its, rv, pl, _⟩ := I.list hq
  have hi := intsAre_of rv
  obtain ⟨zs, e⟩ := hi.allInts.items
  have hns : zs.toList.map (·.1) = ns := by rw [← nums_intItems, ← e]; exact hi.numsOf
  have hpos : 0 < zs.size := Nat.pos_of_ne_zero fun z => hne (by rw [← hns, Array.eq_empty_of_size_eq_zero z]; rfl)
  have hl := pl.isList
  rw [e] at hl
  refine min_intList (I.ok.hd hc) hl hpos fun v h' tk hv hk => ?_
  obtain ⟨t, rfl⟩ := intItems_at hv
  obtain ⟨h1, h2⟩ := argBest_lt (numAt zs) (zs.size - 1)
  have hm : numAt zs (argBest (fun i j => decide (numAt zs i < numAt zs j)) (zs.size - 1)) = minL ns := by
    refine Int.le_antisymm ?_ (minL_le ?_)
    · obtain ⟨j, hj, ej⟩ := mem_getD (minL_mem hne)
      rw [← hns, List.length_map, Array.length_toList] at hj
      have := h2 j (by omega)
      rw [numAt_eq zs j, hns, ej] at this
      exact this
    · rw [numAt_eq, hns]
      exact getD_mem (by rw [← hns, List.length_map, Array.length_toList]; omega)
  exact ⟨.int (minL ns), H, I.kept hk, ⟨t, by rw [hm]⟩, q⟩
theorem call_maxL (hc : X.calm = true) : CallR X (.builtin "max") (fun xs H Q => ∃ a ns, xs = [.ref a] ∧ SqL X.K H a (ns.map V.int) ∧ ns ≠ [] ∧ Q (.int (maxL ns)) H) := by
  intro pins s σ H xs us Q I r h
  obtain ⟨a, ns, rfl, hq, hne, q⟩ := h
  obtain ⟨u, rfl, ru⟩ := vals1 r
  cases ru
  obtain ⟨its, rv, pl, _⟩ := I.list hq
  have hi := intsAre_of rv
  obtain ⟨zs, e⟩ := hi.allInts.items
  have hns : zs.toList.map (·.1) = ns := by rw [← nums_intItems, ← e]; exact hi.numsOf
  have hpos : 0 < zs.size := Nat.pos_of_ne_zero fun z => hne (by rw [← hns, Array.eq_empty_of_size_eq_zero z]; rfl)
  have hl := pl.isList
  rw [e] at hl
  refine max_intList (I.ok.hd hc) hl hpos fun v h' tk hv hk => ?_
  obtain ⟨t, rfl⟩ := intItems_at hv
  obtain ⟨h1, h2⟩ := argBest_gt (numAt zs) (zs.size - 1)
  have hm : numAt zs (argBest (fun i j => decide (numAt zs i > numAt zs j)) (zs.size - 1)) = maxL ns := by
    refine Int.le_antisymm (maxL_ge ?_) ?_
    · rw [numAt_eq, hns]
      exact getD_mem (by rw [← hns, List.length_map, Array.length_toList]; omega)
    · obtain ⟨j, hj, ej⟩ := mem_getD (maxL_mem hne)
      rw [← hns, List.length_map, Array.length_toList] at hj
      have := h2 j (by omega)
      rw [numAt_eq zs j, hns, ej] at this
      exact this
  exact ⟨.int (maxL ns), H, I.kept hk, ⟨t, by rw [hm]⟩, q⟩
theorem lift_mm {id : String} {f : List Int → Int} (h : CallR X (.builtin id) (fun xs H Q => ∃ a ns, xs = [.ref a] ∧ SqL X.K H a (ns.map V.int) ∧ ns ≠ [] ∧ Q (.int (f ns)) H)) : CallR X (.builtin id) (liftC X.K (r3mm f)) := by
  intro pins s σ H xs us Q I rs t
  obtain ⟨ds, H3, Q3, hr, rd, t, k⟩ := t
  cases rd with
  | nil => exact t.elim
  | cons r1 r2 =>
    cases r2 with
    | cons _ _ => cases r1 <;> exact t.elim
    | nil =>
      cases r1 with
      | ref a =>
        simp only [r3mm] at t
        split at t
        · rename_i ds ha
          split at t
          · rename_i ns e
            obtain ⟨vs, ga, ra⟩ := hr a _ ha
            have z := intsOf_inv e
            subst z
            have z := ra.ints_inv
            subst z
            exact h pins s σ H _ us Q I rs ⟨a, ns, rfl, SqL.of ga, t.1, k _ _ _ _ TK.refl hr (.int _) t.2⟩
          · exact t.elim
        · exact t.elim
      | _ => exact t.elim
theorem cb3_min (hc : X.calm = true) : CallR X (.builtin "min") (liftC X.K r3min) := lift_mm (call_minL hc)
theorem cb3_max (hc : X.calm = true) : CallR X (.builtin "max") (liftC X.K r3max) := lift_mm (call_maxL hc)
end
end L3

namespace L3
open PySem L2
/-! ### steps: a rule for each reading, from its head on -/
theorem sizeLine_n : sizeLine = 16777216 := by decide
theorem small1000' {n : Nat} (h : n ≤ 1000) : n < sizeLine := by rw [sizeLine_n]; omega
theorem upd3_old {H : Hp3} {a p : Addr} {o u : O3} (h : H a = some o) (n : H p = none) : upd3 H p u a = some o := by rw [upd3_ne (ne3 h n)]; exact h
theorem sub_upd {H H2 : Hp3} {p : Addr} {o : O3} (s : Sub3 H H2) (h : H2 p = some o) : Sub3 (upd3 H p o) H2 := fun b u e => by
  by_cases hb : b = p
  · subst hb; rw [upd3_same] at e; cases e; exact h
  · rw [upd3_ne hb] at e; exact s b u e
theorem sub_back {H H2 : Hp3} {p : Addr} (s : Sub3 H H2) (h : H2 p = none) : H p = none := by
  cases e : H p with
  | none => rfl
  | some o => have := s p o e; rw [h] at this; cases this
section
variable {σ : St3} {H : Hp3} {Q : VK3} {D0 : Ends3} {i j : Int} {a b : Addr} {d x y : D} {ds es : List D} {ta tb te tc : TE3} {tr : TA3} {t u : TS3} {cA cB : TT3} {QL : List D → Hp3 → Prop} {QB : Bool → Hp3 → Prop}
theorem g_v3 {k : Nat} (h : σ[k]? = some (some d)) (q : Q d H) : v3 k σ H Q := by unfold v3; rw [h]; exact q
theorem g_c3 (q : Q d H) : c3 d σ H Q := q
theorem g_o3 {r : R3} (h : ta σ H fun x H1 => tb σ H1 fun y H2 => r x y H2 Q) : o3 r ta tb σ H Q := h
theorem g_u3 {r : D → Hp3 → VK3 → Prop} (h : ta σ H fun x H1 => r x H1 Q) : u3 r ta σ H Q := h
theorem g_neg (q : Q (.int (-i)) H) : r3neg (.int i) H Q := q
theorem g_sub (q : Q (.int (i - j)) H) : i3sub (.int i) (.int j) H Q := q
theorem g_add (q : Q (.int (i + j)) H) : r3add (.int i) (.int j) H Q := q
theorem g_cat (ha : H a = some (.lst ds)) (hb : H b = some (.lst es)) (hl : ds.length + es.length ≤ sizeLine) (q : ∀ p, H p = none → Q (.ref p) (upd3 H p (.lst (ds ++ es)))) : r3add (.ref a) (.ref b) H Q := by
  simp only [r3add, ha, hb]; exact ⟨hl, q⟩
theorem g_mul (c : CMul i j) (q : Q (.int (i * j)) H) : i3mul (.int i) (.int j) H Q := ⟨c, q⟩
theorem g_div (c : CDiv i j) (q : Q (.int (i / j)) H) : i3div (.int i) (.int j) H Q := ⟨c, q⟩
theorem g_mod (c : 0 < j) (q : Q (.int (i % j)) H) : i3mod (.int i) (.int j) H Q := ⟨c, q⟩
theorem g_pow (c : CPow i j) (q : Q (.int (i ^ j.toNat)) H) : i3pow (.int i) (.int j) H Q := ⟨c, q⟩
theorem g_le (q : Q (.bl (decide (i ≤ j))) H) : i3le (.int i) (.int j) H Q := q
theorem g_gt (q : Q (.bl (decide (j < i))) H) : i3gt (.int i) (.int j) H Q := q
theorem g_ge (q : Q (.bl (decide (j ≤ i))) H) : i3ge (.int i) (.int j) H Q := q
theorem g_lt (q : Q (.bl (decide (i < j))) H) : r3lt (.int i) (.int j) H Q := q
theorem g_ltT {x1 x2 y1 y2 : Int} (q : Q (.bl (HT.lexLt [x1, x2] [y1, y2])) H) : r3lt (.tup [.int x1, .int x2]) (.tup [.int y1, .int y2]) H Q := q
theorem g_eqI (q : Q (.bl (decide (i = j))) H) : r3eq (.int i) (.int j) H Q := by
  have e : (i == j) = decide (i = j) := rfl
  simp only [r3eq, pyH, pyN, PyData.eqv, e]; exact q
theorem g_neI (q : Q (.bl (!decide (i = j))) H) : r3ne (.int i) (.int j) H Q := by
  have e : (i == j) = decide (i = j) := rfl
  simp only [r3ne, pyH, pyN, PyData.eqv, e]; exact q
theorem g_eqP {x1 x2 y1 y2 : Int} (q : Q (.bl (decide ((x1, x2) = (y1, y2)))) H) : r3eq (.tup [.int x1, .int x2]) (.tup [.int y1, .int y2]) H Q := by
  have e : (PyData.eqvAll [.int x1, .int x2] [.int y1, .int y2]) = decide ((x1, x2) = (y1, y2)) := by
    simp only [PyData.eqvAll, PyData.eqv, Bool.and_true, Prod.mk.injEq, Bool.decide_and]; rfl
  simp only [r3eq, pyH, pyN, mapO, Option.map_some, PyData.eqv, e]; exact q
theorem g_neP {x1 x2 y1 y2 : Int} (q : Q (.bl (!decide ((x1, x2) = (y1, y2)))) H) : r3ne (.tup [.int x1, .int x2]) (.tup [.int y1, .int y2]) H Q := by
  have e : (PyData.eqvAll [.int x1, .int x2] [.int y1, .int y2]) = decide ((x1, x2) = (y1, y2)) := by
    simp only [PyData.eqvAll, PyData.eqv, Bool.and_true, Prod.mk.injEq, Bool.decide_and]; rfl
  simp only [r3ne, pyH, pyN, mapO, Option.map_some, PyData.eqv, e]; exact q
theorem g_isN (q : Q (.bl (isN x)) H) : r3isN x .non H Q := q
theorem g_notN (q : Q (.bl (!isN x)) H) : r3notN x .non H Q := q
theorem g_ixT (h : atI ds i = some d) (q : Q d H) : r3ix (.tup ds) (.int i) H Q := by simp only [r3ix, h]; exact q
theorem g_ixF (h : atI ds i = some d) (q : Q d H) : r3ix (.fl ds) (.int i) H Q := by simp only [r3ix, h]; exact q
theorem g_ixL (ha : H a = some (.lst ds)) (h : atI ds i = some d) (q : Q d H) : r3ix (.ref a) (.int i) H Q := by simp only [r3ix, ha, h]; exact q
theorem g_ts (h : te σ H fun d H1 => bt d H1 QB) : ts3 te σ H QB := h
theorem g_bt {k : Bool} (q : QB k H) : bt (.bl k) H QB := q
theorem g_an (h : cA σ H fun c H1 => if c = true then cB σ H1 QB else QB false H1) : an3 cA cB σ H QB := h
theorem g_or (h : cA σ H fun c H1 => if c = true then QB true H1 else cB σ H1 QB) : or3 cA cB σ H QB := h
theorem g_no (h : cA σ H fun c H1 => QB (!c) H1) : no3 cA σ H QB := h
def avk (tb : TE3) (σ : St3) (x : D) (H1 : Hp3) (Q : VK3) : Prop := match x with
  | .bl c => if c = true then tb σ H1 Q else Q (.bl false) H1
  | _ => False
def ovk (tb : TE3) (σ : St3) (x : D) (H1 : Hp3) (Q : VK3) : Prop := match x with
  | .bl c => if c = true then Q (.bl true) H1 else tb σ H1 Q
  | _ => False
def nvk (x : D) (H1 : Hp3) (Q : VK3) : Prop := match x with
  | .bl c => Q (.bl (!c)) H1
  | _ => False
theorem g_av (h : ta σ H fun x H1 => avk tb σ x H1 Q) : av3 ta tb σ H Q := h
theorem g_avk {c : Bool} (h : if c = true then tb σ H Q else Q (.bl false) H) : avk tb σ (.bl c) H Q := h
theorem g_ov (h : ta σ H fun x H1 => ovk tb σ x H1 Q) : ov3 ta tb σ H Q := h
theorem g_ovk {c : Bool} (h : if c = true then Q (.bl true) H else tb σ H Q) : ovk tb σ (.bl c) H Q := h
theorem g_nv (h : ta σ H fun x H1 => nvk x H1 Q) : nv3 ta σ H Q := h
theorem g_nvk {c : Bool} (q : Q (.bl (!c)) H) : nvk (.bl c) H Q := q
theorem g_if3 (h : cA σ H fun c H1 => if c = true then ta σ H1 Q else tb σ H1 Q) : if3 cA ta tb σ H Q := h
theorem g_nil (q : QL [] H) : nil3 σ H QL := q
theorem g_cons (h : ta σ H fun x H1 => tr σ H1 fun xs H2 => QL (x :: xs) H2) : cons3 ta tr σ H QL := h
theorem g_tp (h : tr σ H fun ds H1 => ds.length ≤ 1000 ∧ Q (.tup ds) H1) : tp3 tr σ H Q := h
theorem g_ls (h : tr σ H fun ds H1 => ds.length ≤ 1000 ∧ ∀ p, H1 p = none → Q (.ref p) (upd3 H1 p (.lst ds))) : ls3 tr σ H Q := h
theorem g_and {q : Prop} {n : Nat} (h : Nat.ble ds.length n = true) (h2 : q) : ds.length ≤ n ∧ q := ⟨Nat.le_of_ble_eq_true h, h2⟩
theorem g_cb {r : List D → Hp3 → VK3 → Prop} (h : tr σ H fun ds H1 => r ds H1 Q) : cb3 r tr σ H Q := h
theorem g_lenT (q : Q (.int ds.length) H) : r3len [.tup ds] H Q := q
theorem g_lenF (q : Q (.int ds.length) H) : r3len [.fl ds] H Q := q
theorem g_lenL (ha : H a = some (.lst ds)) (q : Q (.int ds.length) H) : r3len [.ref a] H Q := by simp only [r3len, ha]; exact q
theorem g_tupT (q : Q (.tup ds) H) : r3tuple [.tup ds] H Q := q
theorem g_tupL (ha : H a = some (.lst ds)) (q : Q (.tup ds) H) : r3tuple [.ref a] H Q := by simp only [r3tuple, ha]; exact q
theorem g_listT (q : ∀ p, H p = none → Q (.ref p) (upd3 H p (.lst ds))) : r3list [.tup ds] H Q := q
theorem g_listL (ha : H a = some (.lst ds)) (q : ∀ p, H p = none → Q (.ref p) (upd3 H p (.lst ds))) : r3list [.ref a] H Q := by simp only [r3list, ha]; exact q
theorem g_sl {tl th : TO3} {r : RSl} (h : te σ H fun x H1 => tl σ H1 fun l H2 => th σ H2 fun u H3 => r x l u H3 Q) : sl3 r te tl th σ H Q := h
theorem g_np {QO : Option Int → Hp3 → Prop} (q : QO none H) : np3 σ H QO := q
def ptk (x : D) (H1 : Hp3) (QO : Option Int → Hp3 → Prop) : Prop := match x with
  | .int i => QO (some i) H1
  | _ => False
theorem g_pt {QO : Option Int → Hp3 → Prop} (h : te σ H fun x H1 => ptk x H1 QO) : pt3 te σ H QO := h
theorem g_ptk {QO : Option Int → Hp3 → Prop} (q : QO (some i) H) : ptk (.int i) H QO := q
theorem g_slF {lo hi : Option Int} (q : ∀ p, H p = none → Q (.ref p) (upd3 H p (.lst (cut3 ds lo hi)))) : r3sl (.fl ds) lo hi H Q := q
theorem g_slL {lo hi : Option Int} (ha : H a = some (.lst ds)) (q : ∀ p, H p = none → Q (.ref p) (upd3 H p (.lst (cut3 ds lo hi)))) : r3sl (.ref a) lo hi H Q := by simp only [r3sl, ha]; exact q
/-! statements -/
theorem g_sq (h : t { D0 with nx := u D0 } σ H) : sq3 t u D0 σ H := h
theorem g_st {k : Nat} (h : te σ H fun x H1 => D0.nx (σ.set k (some x)) H1) : st3 k te D0 σ H := h
theorem g_nx3 (h : D0.nx σ H) : nx3 D0 σ H := h
theorem g_br3 (h : D0.bk σ H) : br3 D0 σ H := h
theorem g_co3 (h : D0.ct σ H) : co3 D0 σ H := h
theorem g_dr (h : te σ H fun _ H1 => D0.nx σ H1) : dr3 te D0 σ H := h
theorem g_rt3 (h : te σ H fun d H1 => D0.rt d H1) : rt3 te D0 σ H := h
theorem g_rn3 (h : D0.rt .non H) : rn3 D0 σ H := h
theorem g_is (h : cA σ H fun b H1 => if b = true then t D0 σ H1 else u D0 σ H1) : is3 cA t u D0 σ H := h
theorem g_as {g : TG3} (h : te σ H fun x H1 => g x σ H1 D0.nx) : as3 te g D0 σ H := h
theorem g_gn {k : Nat} {R : St3 → Hp3 → Prop} (h : R (σ.set k (some d)) H) : gn3 k d σ H R := h
theorem g_g2 {k l : Nat} {R : St3 → Hp3 → Prop} (h : R ((σ.set k (some x)).set l (some y)) H) : g2_3 k l (.tup [x, y]) σ H R := h
theorem g_g3 {k l m : Nat} {z : D} {R : St3 → Hp3 → Prop} (h : R (((σ.set k (some x)).set l (some y)).set m (some z)) H) : g3_3 k l m (.tup [x, y, z]) σ H R := h
theorem g_nx {n : St3 → Hp3 → Prop} {r : VK3} {bk ct : St3 → Hp3 → Prop} (h : n σ H) : Ends3.nx ⟨n, r, bk, ct⟩ σ H := h
theorem g_rt {n : St3 → Hp3 → Prop} {r : VK3} {bk ct : St3 → Hp3 → Prop} (h : r d H) : Ends3.rt ⟨n, r, bk, ct⟩ d H := h
theorem g_bk {n : St3 → Hp3 → Prop} {r : VK3} {bk ct : St3 → Hp3 → Prop} (h : bk σ H) : Ends3.bk ⟨n, r, bk, ct⟩ σ H := h
theorem g_ct {n : St3 → Hp3 → Prop} {r : VK3} {bk ct : St3 → Hp3 → Prop} (h : ct σ H) : Ends3.ct ⟨n, r, bk, ct⟩ σ H := h
theorem g_fin {H' : Hp3} (h : Q d H') (s : Sub3 H' H) : Ends3.rt (fin3 Q) d H := ⟨H', s, h⟩
theorem g_finN {H' : Hp3} (h : Q .non H') (s : Sub3 H' H) : Ends3.nx (fin3 Q) σ H := ⟨H', s, h⟩
/-! loops -/
def Lp (g : TG3) (tb : TS3) (D0 : Ends3) (σ : St3) (ds : List D) (keep : Hp3 → Prop) (H1 : Hp3) : Prop := ∃ P : Nat → St3 → Hp3 → Prop, P 0 σ H1 ∧ (∀ i σ H, i ≤ ds.length → P i σ H → keep H) ∧
  (∀ i d σ H, ds[i]? = some d → P i σ H → g d σ H fun σ2 H2 => tb { D0 with nx := P (i + 1), ct := P (i + 1), bk := D0.nx } σ2 H2) ∧ ∀ σ H, P ds.length σ H → D0.nx σ H
theorem g_fo {wi : TI3} {g : TG3} (h : wi σ H fun ds keep H1 => Lp g t D0 σ ds keep H1) : fo3 wi g t D0 σ H := h
theorem Lp.by {g : TG3} {keep : Hp3 → Prop} (P : Nat → St3 → Hp3 → Prop) (h0 : P 0 σ H) (hk : ∀ i σ H, i ≤ ds.length → P i σ H → keep H)
    (turn : ∀ i d σ H, ds[i]? = some d → P i σ H → g d σ H fun σ2 H2 => t { D0 with nx := P (i + 1), ct := P (i + 1), bk := D0.nx } σ2 H2) (fin : ∀ σ H, P ds.length σ H → D0.nx σ H) : Lp g t D0 σ ds keep H := ⟨P, h0, hk, turn, fin⟩
/-- over a range -/
theorem Lp.rng {g : TG3} {lo : Int} {n : Nat} (P : Nat → St3 → Hp3 → Prop) (h0 : P 0 σ H)
    (turn : ∀ (i : Nat) σ H, i < n → P i σ H → g (.int (lo + (i : Int))) σ H fun σ2 H2 => t { D0 with nx := P (i + 1), ct := P (i + 1), bk := D0.nx } σ2 H2) (fin : ∀ σ H, P n σ H → D0.nx σ H) : Lp g t D0 σ (rng lo n) (fun _ => True) H :=
  ⟨P, h0, fun _ _ _ _ _ => trivial, fun i d σ H hd p => by
    have hi : i < n := by
      have := (List.getElem?_eq_some_iff.mp hd).1
      rwa [rng_len] at this
    rw [rng_get hi] at hd
    cases hd
    exact turn i σ H hi p, fun σ H p => fin σ H (by rw [rng_len] at p; exact p)⟩
/-- of the heap only this is kept -/
theorem Lp.heap {g : TG3} {keep : Hp3 → Prop} (F : Hp3 → Prop) (hF : F H) (h : ∀ H', F H' → Lp g t D0 σ ds keep H') : Lp g t D0 σ ds keep H := h H hF
theorem gen_ts (F : Hp3 → Prop) (hF : F H) (h : ∀ H', F H' → t D0 σ H') : t D0 σ H := h H hF
theorem g_ir1 {R : List D → (Hp3 → Prop) → Hp3 → Prop} (h : ta σ H fun x H1 => rg1 x H1 R) : ir1 ta σ H R := h
theorem g_ir2 {R : List D → (Hp3 → Prop) → Hp3 → Prop} (h : ta σ H fun x H1 => tb σ H1 fun y H2 => rg2 x y H2 R) : ir2 ta tb σ H R := h
theorem g_rg1 {R : List D → (Hp3 → Prop) → Hp3 → Prop} (h : R (rng 0 j.toNat) (fun _ => True) H) : rg1 (.int j) H R := h
theorem g_rg2 {R : List D → (Hp3 → Prop) → Hp3 → Prop} (h : R (rng i (j - i).toNat) (fun _ => True) H) : rg2 (.int i) (.int j) H R := h
def ilk (x : D) (H1 : Hp3) (R : List D → (Hp3 → Prop) → Hp3 → Prop) : Prop := match x with
  | .ref a => (match H1 a with
    | some (.lst ds) => R ds (fun H' => H' a = some (.lst ds)) H1
    | _ => False)
  | .fl ds => R ds (fun _ => True) H1
  | _ => False
def itk (x : D) (H1 : Hp3) (R : List D → (Hp3 → Prop) → Hp3 → Prop) : Prop := match x with
  | .tup ds => R ds (fun _ => True) H1
  | _ => False
theorem g_il {R : List D → (Hp3 → Prop) → Hp3 → Prop} (h : te σ H fun x H1 => ilk x H1 R) : il3 te σ H R := h
theorem g_ilR {R : List D → (Hp3 → Prop) → Hp3 → Prop} (ha : H a = some (.lst ds)) (h : R ds (fun H' => H' a = some (.lst ds)) H) : ilk (.ref a) H R := by simp only [ilk, ha]; exact h
theorem g_ilF {R : List D → (Hp3 → Prop) → Hp3 → Prop} (h : R ds (fun _ => True) H) : ilk (.fl ds) H R := h
theorem g_it {R : List D → (Hp3 → Prop) → Hp3 → Prop} (h : te σ H fun x H1 => itk x H1 R) : it3 te σ H R := h
theorem g_itT {R : List D → (Hp3 → Prop) → Hp3 → Prop} (h : R ds (fun _ => True) H) : itk (.tup ds) H R := h
theorem g_wh (P : St3 → Hp3 → Prop) (μ : St3 → Hp3 → Nat) (h0 : P σ H) (turn : ∀ σ H, P σ H → cA σ H fun b H1 => if b = true then t { D0 with nx := fun σ' H' => P σ' H' ∧ μ σ' H' < μ σ H, ct := fun σ' H' => P σ' H' ∧ μ σ' H' < μ σ H, bk := D0.nx } σ H1 else D0.nx σ H1) : wh3 cA t D0 σ H := ⟨P, μ, h0, turn⟩
/-! methods -/
def mtk (r : D → List D → Hp3 → VK3 → Prop) (t : TA3) (σ : St3) (x : D) (H1 : Hp3) (Q : VK3) : Prop := match x with
  | .ref a => (match H1 a with
    | some (.lst _) => t σ H1 fun xs H2 => r x xs H2 Q
    | _ => False)
  | _ => False
theorem g_m3 {r : D → List D → Hp3 → VK3 → Prop} (h : te σ H fun x H1 => mtk r tr σ x H1 Q) : m3 r te tr σ H Q := h
theorem g_mtk {r : D → List D → Hp3 → VK3 → Prop} (ha : H a = some (.lst ds)) (h : tr σ H fun xs H2 => r (.ref a) xs H2 Q) : mtk r tr σ (.ref a) H Q := by simp only [mtk, ha]; exact h
theorem g_app (ha : H a = some (.lst ds)) (hl : ds.length < sizeLine) (q : Q .non (upd3 H a (.lst (ds ++ [y])))) : r3app (.ref a) [y] H Q := by simp only [r3app, ha]; exact ⟨hl, q⟩
theorem g_ext (ha : H a = some (.lst ds)) (hb : H b = some (.lst es)) (hl : ds.length + es.length ≤ sizeLine) (q : Q .non (upd3 H a (.lst (ds ++ es)))) : r3ext (.ref a) [.ref b] H Q := by simp only [r3ext, ha, hb]; exact ⟨hl, q⟩
theorem g_pop (ha : H a = some (.lst ds)) (hy : ds[ds.length - 1]? = some y) (q : Q y (upd3 H a (.lst ds.dropLast))) : r3pop (.ref a) [] H Q := by simp only [r3pop, ha, hy]; exact q
theorem g_clr (ha : H a = some (.lst ds)) (q : Q .non (upd3 H a (.lst []))) : r3clr (.ref a) [] H Q := by simp only [r3clr, ha]; exact q
theorem g_ins (ha : H a = some (.lst ds)) (hi : 0 ≤ i ∧ i ≤ ds.length) (hl : ds.length < 1000) (q : Q .non (upd3 H a (.lst (ds.take i.toNat ++ y :: ds.drop i.toNat)))) : r3ins (.ref a) [.int i, y] H Q := by
  simp only [r3ins, ha]; exact ⟨⟨hi, hl⟩, q⟩
/-! sequences, whatever they are -/
theorem g_ixS (h : seqH H x = some ds) (ha : atI ds i = some d) (q : Q d H) : r3ix x (.int i) H Q := by
  cases x with
  | ref a =>
    simp only [seqH] at h
    split at h
    · rename_i es e; cases h; exact g_ixL e ha q
    · cases h
  | fl es => cases h; exact g_ixF ha q
  | tup es => cases h; exact g_ixT ha q
  | _ => cases h
theorem g_lenS (h : seqH H x = some ds) (q : Q (.int ds.length) H) : r3len [x] H Q := by
  cases x with
  | ref a =>
    simp only [seqH] at h
    split at h
    · rename_i es e; cases h; exact g_lenL e q
    · cases h
  | fl es => cases h; exact q
  | tup es => cases h; exact q
  | _ => cases h
theorem seq_ref (ha : H a = some (.lst ds)) : seqH H (.ref a) = some ds := by simp only [seqH, ha]
theorem g_isi {U T : String} (h : tyH H x = some U) (hT : T ∈ kinds) (q : Q (.bl (isT U T)) H) : r3isi [x, .ty T] H Q := by
  simp only [r3isi, h]; exact ⟨hT, q⟩
theorem atI_map {α : Type} {xs : List α} {f : α → D} {k : Int} (h0 : 0 ≤ k) (h1 : k.toNat < xs.length) : atI (xs.map f) k = some (f (xs[k.toNat]'h1)) := by
  have hl : k < ((xs.map f).length : Int) := by rw [List.length_map]; omega
  unfold atI ixN
  rw [if_pos h0, if_pos hl, Option.bind_some, List.getElem?_map, List.getElem?_eq_getElem h1]
  rfl
theorem py_pts : ∀ ps : List Pt, mapO (pyN 4) (ps.map prP) = some (ps.map fun p => PyData.tuple [.int p.1, .int p.2])
  | [] => rfl
  | p :: ps => by
    have e : pyN 4 (prP p) = some (PyData.tuple [.int p.1, .int p.2]) := rfl
    simp only [List.map_cons, mapO, e, py_pts ps]
theorem eqv_pt (p q : Pt) : PyData.eqv (PyData.tuple [.int p.1, .int p.2]) (PyData.tuple [.int q.1, .int q.2]) = decide (p = q) := by
  obtain ⟨a, b⟩ := p
  obtain ⟨c, d⟩ := q
  simp only [PyData.eqv, PyData.eqvAll, Bool.and_true, Prod.mk.injEq, Bool.decide_and]; rfl
theorem any_pt (p : Pt) : ∀ ps : List Pt, (ps.map fun p => PyData.tuple [.int p.1, .int p.2]).any (fun q => PyData.eqv q (PyData.tuple [.int p.1, .int p.2])) = decide (p ∈ ps)
  | [] => by simp
  | q :: ps => by
    rw [List.map_cons, List.any_cons, any_pt p ps, eqv_pt]
    by_cases h : q = p
    · subst h; simp
    · have h' : ¬ p = q := fun e => h e.symm
      simp [h, h']
theorem g_inP {p1 p2 : Int} {ps : List Pt} (h : seqH H y = some (ps.map prP)) (q : Q (.bl (decide ((p1, p2) ∈ ps))) H) : r3in false (.tup [.int p1, .int p2]) y H Q := by
  have e : pyN 4 (.tup [.int p1, .int p2]) = some (PyData.tuple [.int p1, .int p2]) := rfl
  simp only [r3in, e, h, Option.bind_some, py_pts]
  rw [← any_pt (p1, p2) ps] at q
  exact q
theorem g_ninP {p1 p2 : Int} {ps : List Pt} (h : seqH H y = some (ps.map prP)) (q : Q (.bl (!decide ((p1, p2) ∈ ps))) H) : r3in true (.tup [.int p1, .int p2]) y H Q := by
  have e : pyN 4 (.tup [.int p1, .int p2]) = some (PyData.tuple [.int p1, .int p2]) := rfl
  simp only [r3in, e, h, Option.bind_some, py_pts]
  rw [← any_pt (p1, p2) ps] at q
  exact q
theorem eqvAll_pts : ∀ ps qs : List Pt, PyData.eqvAll (ps.map fun p => PyData.tuple [.int p.1, .int p.2]) (qs.map fun p => PyData.tuple [.int p.1, .int p.2]) = decide (ps = qs)
  | [], [] => by simp [PyData.eqvAll]
  | [], _ :: _ => by simp [PyData.eqvAll]
  | _ :: _, [] => by simp [PyData.eqvAll]
  | p :: ps, q :: qs => by
    simp only [List.map_cons, PyData.eqvAll, eqvAll_pts ps qs, eqv_pt, List.cons.injEq, Bool.decide_and]
/-- lists of pairs compared -/
theorem g_neL {ps qs : List Pt} (ha : H a = some (.lst (ps.map prP))) (hb : H b = some (.lst (qs.map prP))) (q : Q (.bl (!decide (ps = qs))) H) : r3ne (.ref a) (.ref b) H Q := by
  simp only [r3ne, pyH, ha, hb, py_pts, Option.map_some, PyData.eqv, eqvAll_pts]; exact q
theorem g_eqL {ps qs : List Pt} (ha : H a = some (.lst (ps.map prP))) (hb : H b = some (.lst (qs.map prP))) (q : Q (.bl (decide (ps = qs))) H) : r3eq (.ref a) (.ref b) H Q := by
  simp only [r3eq, pyH, ha, hb, py_pts, Option.map_some, PyData.eqv, eqvAll_pts]; exact q
/-! comprehensions -/
def Cp (g : TG3) (tc : TT3) (te : TE3) (σ0 : St3) (ds : List D) (keep : Hp3 → Prop) (H1 : Hp3) (Q : VK3) : Prop := (∀ H2 : Hp3, Sub3 H1 H2 → keep H2) ∧ ds.length ≤ 1000 ∧ ∃ rs : List (Option D), rs.length = ds.length ∧
  (∀ (i : Nat) (d : D), ds[i]? = some d → ∀ H2 : Hp3, Sub3 H1 H2 → g d σ0 H2 fun σ2 H4 => tc σ2 H4 fun b H5 =>
    if b = true then te σ2 H5 fun v H6 => Sub3 H2 H6 ∧ rs[i]? = some (some v) else Sub3 H2 H5 ∧ rs[i]? = some none) ∧
  ∀ p, H1 p = none → Q (.ref p) (upd3 H1 p (.lst (rs.filterMap id)))
def blk3 (own : List Str) (fv : FV) (σ : St3) : St3 := own.map (fun _ => none) ++ fv.map fun p => (σ[p.1]?).join
theorem g_cp {wi : TI3} {g : TG3} {own : List Str} {fv : FV} (h : wi σ H fun ds keep H1 => Cp g cA te (blk3 own fv σ) ds keep H1 Q) : cp3 wi g cA te own fv σ H Q := h
theorem g_yes (q : QB true H) : yes3 σ H QB := q
/-- each item E a gives F a, where the test T a says yes -/
theorem Cp.filt {α : Type} {g : TG3} {keep : Hp3 → Prop} {σ0 : St3} {as : List α} {E : α → D} (F : α → D) (T : α → Bool) (hk : ∀ H2 : Hp3, Sub3 H H2 → keep H2) (hl : as.length ≤ 1000)
    (hel : ∀ (i : Nat) a, as[i]? = some a → ∀ (R1 : VK3) (R0 : Hp3 → Prop) (H2 : Hp3), Sub3 H H2 → (T a = true → ∀ H6, Sub3 H2 H6 → R1 (F a) H6) → (T a = false → ∀ H6, Sub3 H2 H6 → R0 H6) → g (E a) σ0 H2 fun σ2 H4 => cA σ2 H4 fun b H5 => if b = true then te σ2 H5 R1 else R0 H5)
    (fin : ∀ p, H p = none → Q (.ref p) (upd3 H p (.lst ((as.filter T).map F)))) : Cp g cA te σ0 (as.map E) keep H Q := by
  refine ⟨hk, by rw [List.length_map]; exact hl, as.map (fun a => if T a = true then some (F a) else none), by simp, fun i d hd H2 hs => ?_, fun p hp => ?_⟩
  · rw [List.getElem?_map] at hd
    cases e : as[i]? with
    | none => rw [e] at hd; cases hd
    | some a =>
      rw [e] at hd
      cases hd
      have er : (as.map fun a => if T a = true then some (F a) else none)[i]? = some (if T a = true then some (F a) else none) := by rw [List.getElem?_map, e]; rfl
      exact hel i a e _ _ H2 hs (fun ht H6 h6 => ⟨h6, by rw [er, if_pos ht]⟩) fun ht H6 h6 => ⟨h6, by rw [er, if_neg (by rw [ht]; exact Bool.false_ne_true)]⟩
  · have e : ∀ as : List α, (as.map fun a => if T a = true then some (F a) else none).filterMap id = (as.filter T).map F := by
      intro as
      induction as with
      | nil => rfl
      | cons a as ih =>
        rw [List.map_cons, List.filterMap_cons]
        cases h : T a with
        | true => rw [List.filter_cons_of_pos h, List.map_cons, ← ih]; rfl
        | false => rw [List.filter_cons_of_neg (by simp [h]), ← ih]; rfl
    rw [e]
    exact fin p hp
/-- no test -/
theorem Cp.map {α : Type} {g : TG3} {keep : Hp3 → Prop} {σ0 : St3} {as : List α} {E : α → D} (F : α → D) (hk : ∀ H2 : Hp3, Sub3 H H2 → keep H2) (hl : as.length ≤ 1000)
    (hel : ∀ (i : Nat) a, as[i]? = some a → ∀ (R : VK3) (H2 : Hp3), Sub3 H H2 → (∀ H6, Sub3 H2 H6 → R (F a) H6) → g (E a) σ0 H2 fun σ2 H4 => te σ2 H4 R)
    (fin : ∀ p, H p = none → Q (.ref p) (upd3 H p (.lst (as.map F)))) : Cp g yes3 te σ0 (as.map E) keep H Q := by
  refine ⟨hk, by rw [List.length_map]; exact hl, as.map (fun a => some (F a)), by simp, fun i d hd H2 hs => ?_, fun p hp => ?_⟩
  · rw [List.getElem?_map] at hd
    cases e : as[i]? with
    | none => rw [e] at hd; cases hd
    | some a =>
      rw [e] at hd
      cases hd
      have er : (as.map fun a => some (F a))[i]? = some (some (F a)) := by rw [List.getElem?_map, e]; rfl
      exact hel i a e _ H2 hs fun H6 h6 => ⟨h6, er⟩
  · have e : ∀ as : List α, (as.map fun a => some (F a)).filterMap id = as.map F := by
      intro as
      induction as with
      | nil => rfl
      | cons a as ih => rw [List.map_cons, List.filterMap_cons, List.map_cons, ← ih]; rfl
    rw [e]
    exact fin p hp
/-- the same, where pairs come out -/
theorem Cp.mapP {α : Type} {g : TG3} {keep : Hp3 → Prop} {σ0 : St3} {as : List α} {E : α → D} (f : α → Pt) (hk : ∀ H2 : Hp3, Sub3 H H2 → keep H2) (hl : as.length ≤ 1000)
    (hel : ∀ (i : Nat) a, as[i]? = some a → ∀ (R : VK3) (H2 : Hp3), Sub3 H H2 → (∀ H6, Sub3 H2 H6 → R (.tup [.int (f a).1, .int (f a).2]) H6) → g (E a) σ0 H2 fun σ2 H4 => te σ2 H4 R)
    (fin : ∀ p, H p = none → Q (.ref p) (upd3 H p (.lst ((as.map f).map prP)))) : Cp g yes3 te σ0 (as.map E) keep H Q :=
  Cp.map (fun a => prP (f a)) hk hl hel fun p hp => by have := fin p hp; rw [List.map_map] at this; exact this
theorem g_min {ns : List Int} (ha : H a = some (.lst (ns.map D.int))) (hn : ns ≠ []) (q : Q (.int (minL ns)) H) : r3min [.ref a] H Q := by
  simp only [r3min, r3mm, ha, intsOf_map]; exact ⟨hn, q⟩
theorem g_max {ns : List Int} (ha : H a = some (.lst (ns.map D.int))) (hn : ns ≠ []) (q : Q (.int (maxL ns)) H) : r3max [.ref a] H Q := by
  simp only [r3max, r3mm, ha, intsOf_map]; exact ⟨hn, q⟩
theorem g_so {sp : Sp3} (h : te σ H fun x H1 => sok sp x H1 Q) : so3 sp te σ H Q := h
theorem g_sok {sp : Sp3} {ps : List Pt} (ha : H a = some (.lst (ps.map prP))) (ko : KeyOk sp) (hl : ps.length < 64) (q : ∀ p, H p = none → Q (.ref p) (upd3 H p (.lst ((isort ps).map prP)))) : sok sp (.ref a) H Q := by
  simp only [sok, ha, ptsOf_map]; exact ⟨ko, hl, q⟩
theorem g_eqB {k l : Bool} (q : Q (.bl (k == l)) H) : r3eq (.bl k) (.bl l) H Q := by
  simp only [r3eq, pyH, pyN, PyData.eqv]; exact q
theorem cut3_map {α : Type} (xs : List α) (f : α → D) (lo hi : Option Int) : cut3 (xs.map f) lo hi = (cut3 xs lo hi).map f := by
  unfold cut3; rw [List.length_map, List.map_take, List.map_drop]
theorem cut3_len {α : Type} (xs : List α) (lo hi : Option Int) : (cut3 xs lo hi).length ≤ xs.length := by
  unfold cut3; rw [List.length_take, List.length_drop]; omega
theorem cut3_init {α : Type} (xs : List α) (x : α) : cut3 (xs ++ [x]) none (some (-1)) = xs := by
  unfold cut3 HT.sIx
  simp only [List.length_append, List.length_singleton]
  rw [if_pos (by decide), show ((-1 : Int) + ((xs.length + 1 : Nat) : Int)).toNat = xs.length by omega]
  simp
/-! tests decided -/
theorem ifD {p A B : Prop} [Decidable p] (h1 : p → A) (h2 : ¬ p → B) : if decide p = true then A else B := by
  by_cases h : p
  · rw [if_pos (decide_eq_true h)]; exact h1 h
  · rw [if_neg (by simpa using h)]; exact h2 h
theorem ifN {p A B : Prop} [Decidable p] (h1 : ¬ p → A) (h2 : p → B) : if (!decide p) = true then A else B := by
  by_cases h : p
  · rw [if_neg (by simpa using h)]; exact h2 h
  · rw [if_pos (by simpa using h)]; exact h1 h
theorem ifB {c : Bool} {A B : Prop} (h1 : c = true → A) (h2 : c = false → B) : if c = true then A else B := by
  cases c
  · rw [if_neg Bool.false_ne_true]; exact h2 rfl
  · rw [if_pos rfl]; exact h1 rfl
theorem ifY {c : Bool} {A B : Prop} (hc : c = true) (h : A) : if c = true then A else B := by rw [if_pos hc]; exact h
theorem ifX {c : Bool} {A B : Prop} (hc : c = false) (h : B) : if c = true then A else B := by subst hc; exact h
end
end L3

namespace L3
open PySem PySem.W PyProof.Rows
/-! ### the tree of questions that a sort of fewer than 64 items asks: what comes out is in order -/
section
variable {cmp : Nat → Nat → (Bool → Shared → Prop) → Shared → Prop} {n : Nat} {z : Nat → Int} {s : Shared}
def ak (z : Nat → Int) (p : Array Nat) (t : Nat) : Int := z (p.getD t 0)
theorem getD_of {p : Array Nat} {t : Nat} : p.getD t 0 = (p[t]?).getD 0 := by simp [Array.getD_eq_getD_getElem?]
theorem ak_congr {p q : Array Nat} {t u : Nat} (h : p[t]? = q[u]?) : ak z p t = ak z q u := by unfold ak; rw [getD_of, getD_of, h]
def Pm (n : Nat) (p : Array Nat) : Prop := p.Perm (List.range n).toArray
theorem Pm.size {p : Array Nat} (h : Pm n p) : p.size = n := by have := Array.Perm.size_eq h; simpa using this
theorem Pm.lt {p : Array Nat} (h : Pm n p) {t : Nat} (ht : t < n) : p.getD t 0 < n := by
  have hs : t < p.size := by rw [h.size]; exact ht
  have e : p.getD t 0 = p[t] := by rw [getD_of, Array.getElem?_eq_getElem hs]; rfl
  have hm : p[t] ∈ p := Array.getElem_mem hs
  have := (Array.Perm.mem_iff h).mp hm
  rw [e]
  simpa using this
theorem Pm.rev {p : Array Nat} (h : Pm n p) (i j : Nat) : Pm n (kas_rev p i j) := (mirror_perm p i j _).trans h
theorem Pm.bub {p : Array Nat} (h : Pm n p) (k d : Nat) : Pm n (bubble p k d) := (bubble_perm p k d).trans h
theorem ak_rev {p : Array Nat} {i j : Nat} (hj : j ≤ p.size) (k : Nat) : ak z (kas_rev p i j) k = if i ≤ k ∧ k < j then ak z p (i + j - 1 - k) else ak z p k := by
  have e := getElem?_mirror_all (i := i) hj k
  by_cases h : i ≤ k ∧ k < j
  · rw [if_pos h] at e ⊢; exact ak_congr e
  · rw [if_neg h] at e ⊢; exact ak_congr e
theorem ak_rev_eq {p : Array Nat} {i j : Nat} (hj : j ≤ p.size) (heq : ∀ t, i ≤ t → t < j → ak z p t = ak z p (j - 1)) (k : Nat) : ak z (kas_rev p i j) k = ak z p k := by
  rw [ak_rev hj]
  split
  · rw [heq _ (by omega) (by omega), heq k (by omega) (by omega)]
  · rfl
def CmpOk (cmp : Nat → Nat → (Bool → Shared → Prop) → Shared → Prop) (n : Nat) (z : Nat → Int) (s : Shared) : Prop := ∀ i j C, i < n → j < n → C (decide (z i < z j)) s → cmp i j C s
theorem k_asc (hc : CmpOk cmp n z s) {p : Array Nat} (hp : Pm n p) {Q : Nat → Shared → Prop} : ∀ (f m : Nat), 1 ≤ m → m + f ≤ n →
    (∀ r, m ≤ r → r ≤ m + f → (∀ t, m ≤ t → t < r → ak z p (t - 1) ≤ ak z p t) → (r < m + f → ak z p r < ak z p (r - 1)) → Q r s) → (kas_asc p f m).kasWp cmp Q s
  | 0, m, _, _, h => h m (Nat.le_refl _) (Nat.le_refl _) (fun t h1 h2 => absurd h1 (by omega)) (fun z => absurd z (by omega))
  | f + 1, m, h1, h2, h => by
    refine hc _ _ _ (hp.lt (by omega)) (hp.lt (by omega)) ?_
    by_cases hlt : z (p.getD m 0) < z (p.getD (m - 1) 0)
    · rw [decide_eq_true hlt]
      exact h m (Nat.le_refl _) (by omega) (fun t g1 g2 => absurd g1 (by omega)) (fun _ => hlt)
    · rw [decide_eq_false hlt]
      refine k_asc hc hp f (m + 1) (by omega) (by omega) fun r r1 r2 r3 r4 => h r (by omega) (by omega) (fun t t1 t2 => ?_) (fun z => r4 (by omega))
      by_cases ht : t = m
      · subst ht; exact Int.not_lt.mp hlt
      · exact r3 t (by omega) t2
def SorP (z : Nat → Int) (p : Array Nat) (k : Nat) : Prop := ∀ i j, i ≤ j → j < k → ak z p i ≤ ak z p j
def NonP (z : Nat → Int) (p : Array Nat) (k : Nat) : Prop := ∀ i j, i ≤ j → j < k → ak z p j ≤ ak z p i
theorem sor_of {p : Array Nat} {m r : Nat} (h0 : SorP z p m) (h1 : 1 ≤ m) (h : ∀ t, m ≤ t → t < r → ak z p (t - 1) ≤ ak z p t) : SorP z p r := by
  intro i j hij hj
  induction j with
  | zero => have : i = 0 := by omega
            subst this; exact Int.le_refl _
  | succ j ih =>
    by_cases e : i = j + 1
    · subst e; exact Int.le_refl _
    · by_cases hm : j + 1 < m
      · exact h0 i (j + 1) hij hm
      · exact Int.le_trans (ih (by omega) (by omega)) (h (j + 1) (by omega) hj)
theorem k_desc (hc : CmpOk cmp n z s) {Q : Array Nat × Nat × Nat → Shared → Prop} : ∀ (f : Nat) (p : Array Nat) (m q : Nat), Pm n p → 1 ≤ m → m + f ≤ n → q < m → NonP z p m → (∀ t, m - 1 - q ≤ t → t < m → ak z p t = ak z p (m - 1)) →
    (∀ p' r q', Pm n p' → 1 ≤ r → r ≤ m + f → q' < r → NonP z p' r → (∀ t, r - 1 - q' ≤ t → t < r → ak z p' t = ak z p' (r - 1)) → Q (p', r, q') s) → (kas_desc f p m q).kasWp cmp Q s
  | 0, p, m, q, hp, h1, h2, hq, hn, he, h => h p m q hp h1 (Nat.le_refl _) hq hn he
  | f + 1, p, m, q, hp, h1, h2, hq, hn, he, h => by
    have hsz := hp.size
    refine hc _ _ _ (hp.lt (by omega)) (hp.lt (by omega)) ?_
    by_cases hlt : ak z p m < ak z p (m - 1)
    · rw [decide_eq_true (show z (p.getD m 0) < z (p.getD (m - 1) 0) from hlt)]
      by_cases hq0 : q > 0
      · have ek : ∀ k, ak z (kas_rev p (m - (q + 1)) m) k = ak z p k := ak_rev_eq (by omega) (fun t t1 t2 => he t (by omega) t2)
        show (if q > 0 then kas_desc f (kas_rev p (m - (q + 1)) m) (m + 1) 0 else kas_desc f p (m + 1) 0).kasWp cmp Q s
        rw [if_pos hq0]
        refine k_desc hc f _ (m + 1) 0 (hp.rev _ _) (by omega) (by omega) (by omega) ?_ ?_ fun p' r q' a1 a2 a3 a4 a5 a6 => h p' r q' a1 a2 (by omega) a4 a5 a6
        · intro i j hij hj
          rw [ek, ek]
          by_cases e : j = m
          · subst e
            by_cases e2 : i = j
            · subst e2; exact Int.le_refl _
            · exact Int.le_trans (Int.le_of_lt hlt) (hn i (j - 1) (by omega) (by omega))
          · exact hn i j hij (by omega)
        · intro t t1 t2
          have : t = m := by omega
          subst this; rfl
      · show (if q > 0 then kas_desc f (kas_rev p (m - (q + 1)) m) (m + 1) 0 else kas_desc f p (m + 1) 0).kasWp cmp Q s
        rw [if_neg hq0]
        refine k_desc hc f _ (m + 1) 0 hp (by omega) (by omega) (by omega) ?_ ?_ fun p' r q' a1 a2 a3 a4 a5 a6 => h p' r q' a1 a2 (by omega) a4 a5 a6
        · intro i j hij hj
          by_cases e : j = m
          · subst e
            by_cases e2 : i = j
            · subst e2; exact Int.le_refl _
            · exact Int.le_trans (Int.le_of_lt hlt) (hn i (j - 1) (by omega) (by omega))
          · exact hn i j hij (by omega)
        · intro t t1 t2
          have : t = m := by omega
          subst this; rfl
    · rw [decide_eq_false (show ¬ z (p.getD m 0) < z (p.getD (m - 1) 0) from hlt)]
      refine hc _ _ _ (hp.lt (by omega)) (hp.lt (by omega)) ?_
      by_cases hgt : ak z p (m - 1) < ak z p m
      · rw [decide_eq_true (show z (p.getD (m - 1) 0) < z (p.getD m 0) from hgt)]
        exact h p m q hp h1 (by omega) hq hn he
      · rw [decide_eq_false (show ¬ z (p.getD (m - 1) 0) < z (p.getD m 0) from hgt)]
        have eq : ak z p m = ak z p (m - 1) := by omega
        refine k_desc hc f p (m + 1) (q + 1) hp (by omega) (by omega) (by omega) ?_ ?_ fun p' r q' a1 a2 a3 a4 a5 a6 => h p' r q' a1 a2 (by omega) a4 a5 a6
        · intro i j hij hj
          by_cases e : j = m
          · subst e
            by_cases e2 : i = j
            · subst e2; exact Int.le_refl _
            · rw [eq]; exact hn i (j - 1) (by omega) (by omega)
          · exact hn i j hij (by omega)
        · intro t t1 t2
          show ak z p t = ak z p m
          by_cases e : t = m
          · subst e; rfl
          · rw [eq]; exact he t (by omega) (by omega)
theorem k_tail (hc : CmpOk cmp n z s) {p : Array Nat} {m : Nat} (hp : Pm n p) (h1 : 1 ≤ m) (hm : m ≤ n) (hn : NonP z p m) {Q : Nat × Array Nat → Shared → Prop}
    (h : ∀ r p', Pm n p' → 1 ≤ r → r ≤ n → SorP z p' r → Q (r, p') s) : (kas_tail3 m n p).kasWp cmp Q s := by
  unfold kas_tail3
  rw [KasT.kasWp_bind]
  have hsz := hp.size
  have hs : SorP z (kas_rev p 0 m) m := fun i j hij hj => by
    rw [ak_rev (by omega), ak_rev (by omega), if_pos ⟨by omega, by omega⟩, if_pos ⟨by omega, by omega⟩]
    exact hn _ _ (by omega) (by omega)
  refine k_asc hc (hp.rev 0 m) _ m h1 (by omega) fun r r1 r2 r3 _ => h r _ (hp.rev 0 m) (by omega) (by omega) (sor_of hs h1 r3)
theorem k_descPart (hc : CmpOk cmp n z s) {p : Array Nat} {m : Nat} (hp : Pm n p) (h1 : 1 ≤ m) (hm : m + 1 ≤ n) (hn : ∀ t, t < m → ak z p t = ak z p (m - 1)) (hd : ak z p m < ak z p (m - 1)) {Q : Nat × Array Nat → Shared → Prop}
    (h : ∀ r p', Pm n p' → 1 ≤ r → r ≤ n → SorP z p' r → Q (r, p') s) : (kas_descPart m n p).kasWp cmp Q s := by
  unfold kas_descPart
  rw [KasT.kasWp_bind]
  refine k_desc hc _ p (m + 1) 0 hp (by omega) (by omega) (by omega) ?_ ?_ ?_
  · intro i j hij hj
    by_cases e : j = m
    · subst e
      by_cases e2 : i = j
      · subst e2; exact Int.le_refl _
      · rw [hn i (by omega)]; exact Int.le_of_lt hd
    · rw [hn i (by omega), hn j (by omega)]; exact Int.le_refl _
  · intro t t1 t2
    have : t = m := by omega
    subst this; rfl
  · intro p' r q' a1 a2 a3 a4 a5 a6
    have hsz := a1.size
    show (if q' > 0 then kas_tail3 r n (kas_rev p' (r - (q' + 1)) r) else kas_tail3 r n p').kasWp cmp Q s
    by_cases hq : q' > 0
    · rw [if_pos hq]
      have ek : ∀ k, ak z (kas_rev p' (r - (q' + 1)) r) k = ak z p' k := ak_rev_eq (by omega) (fun t t1 t2 => a6 t (by omega) t2)
      exact k_tail hc (a1.rev _ _) a2 (by omega) (fun i j hij hj => by rw [ek, ek]; exact a5 i j hij hj) h
    · rw [if_neg hq]
      exact k_tail hc a1 a2 (by omega) a5 h
theorem k_count (hc : CmpOk cmp n z s) {p : Array Nat} (hp : Pm n p) (hn : 1 ≤ n) {Q : Nat × Array Nat → Shared → Prop} (h : ∀ r p', Pm n p' → 1 ≤ r → r ≤ n → SorP z p' r → Q (r, p') s) : (kas_count n p).kasWp cmp Q s := by
  unfold kas_count
  rw [KasT.kasWp_bind]
  have hsz := hp.size
  refine k_asc hc hp _ 1 (Nat.le_refl _) (by omega) fun r r1 r2 r3 r4 => ?_
  have hs : SorP z p r := sor_of (m := 1) (fun i j hij hj => by
    have e1 : i = 0 := by omega
    have e2 : j = 0 := by omega
    subst e1; subst e2; exact Int.le_refl _) (Nat.le_refl _) r3
  by_cases e : r = n
  · rw [if_pos (by rw [e]; exact beq_self_eq_true n)]
    exact h r p hp r1 (by omega) hs
  · rw [if_neg (by simpa using e)]
    have hd := r4 (by omega)
    by_cases hr : r > 1
    · rw [if_pos hr]
      refine hc _ _ _ (hp.lt (by omega)) (hp.lt (by omega)) ?_
      by_cases hlt : ak z p 0 < ak z p (r - 1)
      · rw [decide_eq_true (show z (p.getD 0 0) < z (p.getD (r - 1) 0) from hlt)]
        exact h r p hp r1 (by omega) hs
      · rw [decide_eq_false (show ¬ z (p.getD 0 0) < z (p.getD (r - 1) 0) from hlt)]
        have heq : ∀ t, t < r → ak z p t = ak z p (r - 1) := fun t ht => by
          have g1 := hs 0 t (by omega) ht
          have g2 := hs t (r - 1) (by omega) (by omega)
          omega
        have ek : ∀ k, ak z (kas_rev p 0 r) k = ak z p k := ak_rev_eq (by omega) (fun t t1 t2 => heq t t2)
        exact k_descPart hc (hp.rev 0 r) r1 (by omega) (fun t ht => by rw [ek, ek]; exact heq t ht) (by rw [ek, ek]; exact hd) h
    · rw [if_neg hr]
      have e1 : r = 1 := by omega
      subst e1
      exact k_descPart hc hp r1 (by omega) (fun t ht => by have : t = 0 := by omega
                                                           subst this; rfl) hd h
theorem k_place (hc : CmpOk cmp n z s) {p : Array Nat} {k : Nat} (hp : Pm n p) (hk : k < n) (hs : SorP z p k) {Q : Nat → Shared → Prop} : ∀ (f l r : Nat), l ≤ r → r ≤ k → r - l ≤ f → (∀ t, t < l → ak z p t ≤ ak z p k) → (∀ t, r ≤ t → t < k → ak z p k < ak z p t) →
    (∀ l', l' ≤ k → (∀ t, t < l' → ak z p t ≤ ak z p k) → (∀ t, l' ≤ t → t < k → ak z p k < ak z p t) → Q l' s) → (kas_place p k f l r).kasWp cmp Q s
  | 0, l, r, h1, h2, h3, h4, h5, h => h l (by omega) h4 (fun t t1 t2 => h5 t (by omega) t2)
  | f + 1, l, r, h1, h2, h3, h4, h5, h => by
    show (if l ≥ r then KasT.ret l else .ask (p.getD k 0) (p.getD ((l + r) / 2) 0) fun c => if c = true then kas_place p k f l ((l + r) / 2) else kas_place p k f ((l + r) / 2 + 1) r).kasWp cmp Q s
    by_cases hlr : l ≥ r
    · rw [if_pos hlr]
      exact h l (by omega) h4 (fun t t1 t2 => h5 t (by omega) t2)
    · rw [if_neg hlr]
      refine hc _ _ _ (hp.lt (by omega)) (hp.lt (by omega)) ?_
      by_cases hlt : ak z p k < ak z p ((l + r) / 2)
      · rw [decide_eq_true (show z (p.getD k 0) < z (p.getD ((l + r) / 2) 0) from hlt)]
        exact k_place hc hp hk hs f l ((l + r) / 2) (by omega) (by omega) (by omega) h4 (fun t t1 t2 => by
          have := hs ((l + r) / 2) t t1 t2
          omega) h
      · rw [decide_eq_false (show ¬ z (p.getD k 0) < z (p.getD ((l + r) / 2) 0) from hlt)]
        exact k_place hc hp hk hs f ((l + r) / 2 + 1) r (by omega) h2 (by omega) (fun t ht => by
          have := hs t ((l + r) / 2) (by omega) (by omega)
          omega) h5 h
theorem k_bin (hc : CmpOk cmp n z s) {Q : Array Nat → Shared → Prop} : ∀ (f : Nat) (p : Array Nat) (k : Nat), k + f = n → Pm n p → SorP z p k → (∀ p', Pm n p' → SorP z p' n → Q p' s) → (kas_bin f p k).kasWp cmp Q s
  | 0, p, k, h1, hp, hs, h => h p hp (by rw [← h1]; exact hs)
  | f + 1, p, k, h1, hp, hs, h => by
    show ((kas_place p k k 0 k).bind fun l => kas_bin f (bubble p k (k - l)) (k + 1)).kasWp cmp Q s
    rw [KasT.kasWp_bind]
    have hsz := hp.size
    refine k_place hc hp (by omega) hs k 0 k (Nat.zero_le _) (Nat.le_refl _) (by omega) (fun t ht => absurd ht (by omega)) (fun t t1 t2 => absurd t1 (by omega)) fun l l1 l2 l3 => ?_
    refine k_bin hc f _ (k + 1) (by omega) (hp.bub _ _) ?_ h
    have eb : ∀ t, ak z (bubble p k (k - l)) t = if t = l then ak z p k else if l < t ∧ t ≤ k then ak z p (t - 1) else ak z p t := fun t => by
      have e := getElem?_bubble (xs := p) (src := k) (by omega) (k - l) (by omega) t
      rw [show k - (k - l) = l by omega] at e
      by_cases g1 : t = l
      · rw [if_pos g1] at e ⊢; exact ak_congr e
      · rw [if_neg g1] at e ⊢
        by_cases g2 : l < t ∧ t ≤ k
        · rw [if_pos g2] at e ⊢; exact ak_congr e
        · rw [if_neg g2] at e ⊢; exact ak_congr e
    intro i j hij hj
    rw [eb, eb]
    by_cases i1 : i = l
    · rw [if_pos i1]
      by_cases j1 : j = l
      · rw [if_pos j1]; exact Int.le_refl _
      · rw [if_neg j1, if_pos ⟨by omega, by omega⟩]
        exact Int.le_of_lt (l3 (j - 1) (by omega) (by omega))
    · rw [if_neg i1]
      by_cases i2 : l < i ∧ i ≤ k
      · rw [if_pos i2, if_neg (by omega), if_pos ⟨by omega, by omega⟩]
        exact hs _ _ (by omega) (by omega)
      · rw [if_neg i2]
        by_cases j1 : j = l
        · rw [if_pos j1]; exact l2 i (by omega)
        · rw [if_neg j1]
          by_cases j2 : l < j ∧ j ≤ k
          · rw [if_pos j2]; exact hs _ _ (by omega) (by omega)
          · rw [if_neg j2]; exact hs _ _ hij (by omega)
theorem k_sort (hc : CmpOk cmp n z s) (hn : 1 ≤ n) {Q : Array Nat → Shared → Prop} (h : ∀ p, Pm n p → SorP z p n → Q p s) : (kas_sort n).kasWp cmp Q s := by
  unfold kas_sort
  rw [KasT.kasWp_bind]
  refine k_count hc (Array.Perm.refl _) hn fun r p hp h1 h2 hs => ?_
  show (if r < n then kas_bin (n - max r 1) p (max r 1) else .ret p).kasWp cmp Q s
  have e : max r 1 = r := by omega
  by_cases hr : r < n
  · rw [if_pos hr, e]
    exact k_bin hc _ p r (by omega) hp hs h
  · rw [if_neg hr]
    have : r = n := by omega
    subst this
    exact h p hp hs
end
end L3

namespace L3
open PySem PySem.Spec PySem.W PyProof.Rows
/-! ### sorted(.., key = f): fewer than 64 items, keys made one after another -/
section
variable {prog : Program} {w : World} {A : Around} {E : Value → Shared → Prop} {s : Shared}
/-- what the caller shows of a sort: J: what holds when the keys ks are made and lie at kS; D: the list that is sorted -/
structure SortJ (prog : Program) (w : World) (A : Around) (s : Shared) (vs : List Value) (f : Value) (z : Nat → Int) (Q : Value → Shared → Prop) (D kS : Addr) (J : Nat → List Value → Nat → Shared → Prop) : Prop where
  start : ∀ e1 h', (∀ b o, s.heap.get? b = some o → h'.get? b = some o) → h'.get? D = some (seqObj "list" #[] e1) → h'.get? kS = some (seqObj "list" #[] 0) → J e1 [] 0 { s with heap := h' }
  stand : ∀ e1 ks e s1, J e1 ks e s1 → s1.heap.get? kS = some (seqObj "list" (List.toArray ks) e) ∧ s1.heap.get? D = some (seqObj "list" #[] e1)
  turn : ∀ e1 ks e s1 x, J e1 ks e s1 → vs[ks.length]? = some x → wpAny (model prog w) A (call f [x]) (fun k s2 => s2.heap.get? kS = some (seqObj "list" (List.toArray ks) e) ∧
    ∀ c h', Heap.SameBut kS s2.heap h' → h'.get? kS = some (seqObj "list" (List.toArray (ks ++ [k])) c) → J e1 (ks ++ [k]) c { s2 with heap := h' }) (fun _ _ => False) s1
  order : ∀ e1 ks e s1, J e1 ks e s1 → ks.length = vs.length → 2 ≤ vs.length → wpAny (model prog w) A (keyKind' (List.toArray ks)) (fun κ s2 => s2 = s1 ∧ CmpOk (kas_ask prog w A κ ks) vs.length z s1) (fun _ _ => False) s1
  fin : ∀ e1 ks e s1 (p : Array Nat), J e1 ks e s1 → ks.length = vs.length → Pm vs.length p → SorP z p vs.length → ∀ h' c, (∀ b o, b ≠ kS → b ≠ D → s1.heap.get? b = some o → h'.get? b = some o) →
    h'.get? D = some (seqObj "list" (List.toArray (p.toList.map fun i => vs.getD i Value.none)) c) → Q (.ref D) { s1 with heap := h' }
theorem sort_tail {D kS : Addr} {ks : List Value} {e e1 : Nat} {st : SortSt} {out : List Value} {P : PySem.Fin → Shared → Prop} (hk : s.heap.get? kS = some (seqObj "list" (List.toArray ks) e)) (hD : s.heap.get? D = some (seqObj "list" #[] e1)) (ne : D ≠ kS)
    (ho : (arrOf st).map (·.2) = List.toArray out) (hf : failedOf st = none) (h1 : ks.length < 64) (h2 : out.length < 64)
    (h : ∀ h' c, (∀ b o, b ≠ kS → b ≠ D → s.heap.get? b = some o → h'.get? b = some o) → h'.get? D = some (seqObj "list" (List.toArray out) c) → P (.done (.ret .none)) { s with heap := h' }) : wpAny (model prog w) A (ksk_tail D false e1 (.ref kS) st) P E s := by
  have s1 := Heap.SameBut.update s.heap kS (Obj.mapSeq fun _ => (#[] : Array Value))
  have hD1 : (s.heap.update kS (Obj.mapSeq fun _ => (#[] : Array Value))).get? D = some (seqObj "list" #[] e1) := (s1.2 D ne).trans hD
  have s2 := Heap.SameBut.update (s.heap.update kS (Obj.mapSeq fun _ => (#[] : Array Value))) D (Obj.mapSeq fun _ => List.toArray out)
  unfold ksk_tail
  dsimp only
  rw [ho]
  refine wpAny_bind (listUpdate_at hk rfl (wpAny_bind (wpAny_letGo (wpAny_bind (seqEpoch_at hD1 rfl (wpAny_bind (listUpdate_at hD1 rfl ?_ (Nat.zero_le _) ?_)))))) ?_ (Nat.zero_le _))
  · rw [hf]
    simp only [bne_self_eq_false, Bool.false_eq_true, if_false]
    exact wpAny_pure (h _ _ (fun b o n1 n2 q => (s2.2 b n2).trans ((s1.2 b n1).trans q)) (get?_update_seq hD1 fun _ => List.toArray out))
  · simp only [Bool.false_eq_true, if_false, List.size_toArray]
    rw [sizeLine_eq]; omega
  · rw [List.size_toArray, sizeLine_eq]; omega
theorem sort_end {D kS : Addr} {J : Nat → List Value → Nat → Shared → Prop} {s0 : Shared} {vs ks : List Value} {f : Value} {z : Nat → Int} {Q : Value → Shared → Prop} {e e1 : Nat} {P : PySem.Fin → Shared → Prop} (T : SortJ prog w A s0 vs f z Q D kS J) (ne : D ≠ kS) (h64 : vs.length < 64)
    (hJ : J e1 ks e s) (hl : ks.length = vs.length) (hP : ∀ s', Q (.ref D) s' → P (.done (.ret .none)) s') : wpAny (model prog w) A (ksk_end D false vs.toArray e1 (.ref kS) (List.toArray ks)) P E s := by
  obtain ⟨hk, hD⟩ := T.stand _ _ _ _ hJ
  unfold ksk_end
  dsimp only
  simp only [Bool.false_eq_true, if_false]
  by_cases h2 : vs.toArray.size < 2
  · rw [if_pos h2, if_pos h2]
    rw [List.size_toArray] at h2
    refine wpAny_bind (wpAny_pure ?_)
    rw [StateT.run_pure]
    refine wpAny_bind (wpAny_pure ?_)
    have hz : (List.range vs.length).map (fun i => vs.getD i Value.none) = vs := by
      apply List.ext_getElem?
      intro i
      rw [List.getElem?_map]
      by_cases hi : i < vs.length
      · rw [List.getElem?_range hi, List.getElem?_eq_getElem hi]
        simp [hi]
      · rw [List.getElem?_eq_none (by simpa using hi), List.getElem?_eq_none (by simpa using hi)]; rfl
    refine sort_tail (out := vs) hk hD ne ?_ rfl (by omega) h64 fun h' c g1 g2 => hP _ (T.fin e1 ks e s (List.toArray (List.range vs.length)) hJ hl (Array.Perm.refl _) ?_ h' c g1 ?_)
    · show Array.map (·.2) ((List.toArray ks).zip vs.toArray) = vs.toArray
      apply Array.toList_inj.mp
      simp only [Array.toList_map, Array.toList_zip]
      exact List.map_snd_zip (by omega)
    · intro i j hij hj
      have : i = j := by omega
      subst this; exact Int.le_refl _
    · rw [g2]
      simp only [List.toList_toArray] at hz ⊢
      rw [hz]
  · rw [if_neg h2, if_neg h2]
    rw [List.size_toArray] at h2
    refine wpAny_bind (wpAny_mono (T.order _ _ _ _ hJ hl (by omega)) (fun κ s2 hk2 => ?_) fun _ _ x => x.elim)
    obtain ⟨rfl, hc⟩ := hk2
    refine wpAny_bind (wpAny_mono (kat_run (Q := fun st' s' => s' = s2 ∧ ∃ p : Array Nat, Pm vs.length p ∧ SorP z p vs.length ∧ arrOf st' = p.map (kas_item ((List.toArray ks).zip vs.toArray)) ∧ failedOf st' = none) (G := fun p s' => s' = s2 ∧ Pm vs.length p ∧ SorP z p vs.length)
      hl (by omega) h64 (fun p st' s' a1 a2 a3 a4 => ⟨a4.1, p, a4.2.1, a4.2.2, a2, a3⟩) (k_sort hc (by omega) fun p g1 g2 => ⟨rfl, g1, g2⟩)) ?_ fun _ _ x => x)
    rintro ⟨⟨⟩, st'⟩ s' ⟨rfl, p, pm, so, har, hf⟩
    dsimp only
    refine sort_tail hk hD ne (kat_snds hl har) hf (by omega) ?_ fun h' c g1 g2 => hP _ (T.fin e1 ks e _ p hJ hl pm so h' c g1 g2)
    rw [List.length_map, Array.length_toList, pm.size]; exact h64
theorem sort_tree {D : Addr} {vs : List Value} {f : Value} {z : Nat → Int} {Q : Value → Shared → Prop} {s0 : Shared} {n : Nat} {P : PySem.Fin → Shared → Prop} (hD : s.heap.get? D = some (seqObj "list" vs.toArray n)) (h64 : vs.length < 64)
    (kp : ∀ b o, s0.heap.get? b = some o → s.heap.get? b = some o ∧ b ≠ D) (hs : ∃ h, s = { s0 with heap := h })
    (T : ∀ kS, s.heap.objs.size ≤ kS → ∃ J, SortJ prog w A s0 vs f z Q D kS J) (hP : ∀ s', Q (.ref D) s' → P (.done (.ret .none)) s') : wpAny (model prog w) A (ksk_tree D f false) P E s := by
  have s1 := Heap.SameBut.update s.heap D (Obj.mapSeq fun _ => (#[] : Array Value))
  obtain ⟨e1, hD1⟩ : ∃ e1, (s.heap.update D (Obj.mapSeq fun _ => (#[] : Array Value))).get? D = some (seqObj "list" #[] e1) := ⟨_, get?_update_seq hD fun _ => #[]⟩
  have hz : (((s.heap.update D (Obj.mapSeq fun _ => (#[] : Array Value))).push (seqObj "tuple" vs.toArray 0))).objs.size = s.heap.objs.size + 1 := by rw [size_push', Heap.size_update]
  have hlt : D < s.heap.objs.size := Heap.lt_size hD
  have hne : D ≠ (((s.heap.update D (Obj.mapSeq fun _ => (#[] : Array Value))).push (seqObj "tuple" vs.toArray 0))).objs.size := Nat.ne_of_lt (by rw [hz]; exact Nat.lt_succ_of_lt hlt)
  obtain ⟨J, T⟩ := T (((s.heap.update D (Obj.mapSeq fun _ => (#[] : Array Value))).push (seqObj "tuple" vs.toArray 0))).objs.size (by rw [hz]; exact Nat.le_succ _)
  unfold ksk_tree
  refine wpAny_bind (listItems_at hD rfl (wpAny_bind (listUpdate_at hD rfl (wpAny_bind (seqEpoch_at hD1 rfl (wpAny_bind (wpAny_newTuple (wpAny_bind (wpAny_newList (wpAny_holding ?_) (Nat.zero_le _))) ?_)))) ?_ (Nat.zero_le _))))
  · unfold ksk_rest
    obtain ⟨h0, rfl⟩ := hs
    have J0 := T.start e1 ((((h0.update D (Obj.mapSeq fun _ => (#[] : Array Value))).push (seqObj "tuple" vs.toArray 0))).push (seqObj "list" #[] 0)) (fun b o q => Heap.get?_push_of_some _ (Heap.get?_push_of_some _ ((s1.2 b (kp b o q).2).trans (kp b o q).1))) (Heap.get?_push_of_some _ (Heap.get?_push_of_some _ hD1)) (Heap.get?_push_size _ rfl)
    refine wpAny_bind (wpAny_rule ?_)
    rw [List.forIn_toArray]
    refine wpAny_bind (ksk_fold (fun i s' => ∃ ks e, ks.length = i ∧ J e1 ks e s') vs 0 _ ⟨[], 0, rfl, J0⟩ (fun j x s' hx hI => ?_) fun s' hI => ?_)
    · obtain ⟨ks, e, hl, hJ⟩ := hI
      have hj : ks.length = j := by omega
      have hjl : j < vs.length := (List.getElem?_eq_some_iff.mp hx).1
      refine wpAny_bind (wpAny_attempt (wpAny_mono (T.turn _ _ _ _ x hJ (by rw [hj]; exact hx)) (fun k s2 hk => ?_) fun _ _ hF => hF.elim))
      obtain ⟨hk, fin⟩ := hk
      dsimp only
      refine wpAny_bind (listUpdate_at hk rfl ?_ ?_ ?_)
      · have hu := get?_update_seq hk (·.push k)
        rw [show (List.toArray ks).push k = List.toArray (ks ++ [k]) by simp] at hu
        exact wpAny_pure ⟨rfl, ks ++ [k], _, by simp; omega, fin _ _ (Heap.SameBut.update ..) hu⟩
      · rw [List.size_toArray, sizeLine_eq]; omega
      · rw [Array.size_push, List.size_toArray, sizeLine_eq]; omega
    · obtain ⟨ks, e, hl, hJ⟩ := hI
      have hl' : ks.length = vs.length := by omega
      dsimp only
      refine wpAny_bind (listItems_at (T.stand _ _ _ _ hJ).1 rfl ?_)
      exact sort_end T hne h64 hJ hl' hP
  · show vs.length ≤ _; rw [sizeLine_eq]; omega
  · rw [List.size_toArray, sizeLine_eq]; omega
theorem sort_call {l q : Addr} {vs : List Value} {z : Nat → Int} {Q : Value → Shared → Prop} (hl : s.heap.IsList l vs.toArray) (h64 : vs.length < 64)
    (T : ∀ D kS, s.heap.objs.size ≤ D → D < kS → ∃ J, SortJ prog w A.in1.in1 s vs (.ref q) z Q D kS J) : wpAny (model prog w) A (call (.builtin "sorted") [.ref l] [(Str.ofString "key", .ref q)]) Q E s := by
  refine call_function_entry_kw kind_sorted plain_sorted entry_sorted (ksk_s1 _ _) ?_
  unfold Builtin.«sorted»
  have hz : ((s.heap.push (seqObj "list" #[] 0)).update s.heap.objs.size (Obj.mapSeq (· ++ vs.toArray))).objs.size = s.heap.objs.size + 1 := (Heap.size_update ..).trans (size_push' ..)
  refine wpAny_bind (m := checkCount "sorted" 1 1 _) (wpAny_pure (wpAny_bind (collect_list hl (wpAny_bind (wpAny_newList ?_ ?_)) ?_)))
  · have kp : ∀ b o, s.heap.get? b = some o → (((s.heap.push (seqObj "list" #[] 0)).update s.heap.objs.size (Obj.mapSeq (· ++ vs.toArray))).push (seqObj "list" vs.toArray 0)).get? b = some o := fun b o q => by
      have hb : b < s.heap.objs.size := Heap.lt_size q
      rw [Heap.get?_push_ne _ _ _ (by rw [hz]; exact Nat.ne_of_lt (Nat.lt_succ_of_lt hb)), Heap.get?_update_ne _ _ _ _ (Nat.ne_of_lt hb), Heap.get?_push_ne _ _ _ (Nat.ne_of_lt hb)]
      exact q
    have hD : (((s.heap.push (seqObj "list" #[] 0)).update s.heap.objs.size (Obj.mapSeq (· ++ vs.toArray))).push (seqObj "list" vs.toArray 0)).get? ((s.heap.push (seqObj "list" #[] 0)).update s.heap.objs.size (Obj.mapSeq (· ++ vs.toArray))).objs.size = some (seqObj "list" vs.toArray 0) := Heap.get?_push_size _ rfl
    refine wpAny_bind (wpAny_holding (wpAny_call_entry_kw slot_list_sort ⟨_, hD, rfl⟩ entry_list_sort ?_ (ksk_l1 _ _)))
    refine sort_tree (s0 := s) (Q := Q) hD h64 (fun b o q => ⟨kp b o q, Nat.ne_of_lt (by rw [hz]; exact Nat.lt_succ_of_lt (Heap.lt_size q))⟩) ⟨_, rfl⟩ (fun kS hk => T _ kS (by rw [hz]; exact Nat.le_succ _) (Nat.lt_of_lt_of_le (Heap.lt_size hD) hk)) fun s' hq => ⟨_, rfl, wpAny_pure ⟨_, rfl, hq⟩⟩
  · rw [sizeLine_eq]; omega
  · rw [sizeLine_eq]; omega
end
end L3

namespace L3
open PySem PySem.Spec PyProof.Rows L2
/-! ### sorted(some, key = rank): pairs in the order of their second number first -/
/-- the context one builtin and one method deeper; no exception leaves -/
def Cx.in2 (X : Cx) : Cx := { X with A := X.A.in1.in1, xe := fun _ _ => False }
theorem Ok.in2 {X : Cx} (k : X.Ok) : (Cx.in2 X).Ok := ⟨k.mod, k.kind, k.glob, k.blt, k.above, k.inj, k.has, k.cab, k.hd, k.frames, k.stk, k.exf, k.bs, k.bsz, k.noex, k.exfs, k.funs, k.frf⟩
section
variable {X : Cx} {pins : List (Addr × Obj)} {σ : St} {H H' : Hp} {s : Shared}
theorem Inv.in2 (I : Inv X pins σ H s) : Inv (Cx.in2 X) pins σ H s := ⟨Ok.in2 I.ok, I.os, I.bare, I.base, I.loc, I.cell, I.free, I.freeC, I.pin, I.hok, I.len⟩
theorem Inv.out2 (k : X.Ok) (I : Inv (Cx.in2 X) pins σ H s) : Inv X pins σ H s := ⟨k, I.os, I.bare, I.base, I.loc, I.cell, I.free, I.freeC, I.pin, I.hok, I.len⟩
/-- two records of ours have changed; one of them is a list that is tracked from here on -/
theorem Inv.adopt {D kS : Addr} {xs : List V} {its : List Value} {n : Nat} {h' : Heap} (I : Inv X pins σ H s) (fD : FpOk X pins H D) (fk : FpOk X pins H kS) (g : ∀ b o, b ≠ kS → b ≠ D → s.heap.get? b = some o → h'.get? b = some o)
    (hD : h'.get? D = some (seqObj "list" its.toArray n)) (hv : Vals xs its) (hz : xs.length ≤ sizeLine) : Inv X pins σ (upd H D (.lst xs)) { s with heap := h' } := by
  have nD : ∀ b u, H b = some u → b ≠ D := fun b u e z => by rw [z, fD.1] at e; cases e
  have nK : ∀ b u, H b = some u → b ≠ kS := fun b u e z => by rw [z, fk.1] at e; cases e
  have out : ∀ b, b ∉ [kS, D] → b ≠ kS ∧ b ≠ D := fun b hb => ⟨fun z => hb (by simp [z]), fun z => hb (by simp [z])⟩
  refine I.step (g' := s.gens) (d' := s.drawn) (t' := s.toks) (ch := [kS, D]) (fun b hb => ?_) (fun b o _ _ hc e _ => g b o (out b hc).1 (out b hc).2 e) (fun b o _ _ hc e _ => ⟨o.slots, g b o (out b hc).1 (out b hc).2 e⟩) (fun b o hc _ z => by rw [upd_ne (out b hc).2]; exact z) ?_
    (fun b ys e => by rw [upd_ne (nD b _ e)]; exact e) (fun b o u e => by rw [upd_ne (nD b _ e)]; exact e) (fun b ps e => ⟨#[], by rw [upd_ne (nD b _ e), e]; simp⟩) (fun m hm => ?_) (fun b u e => ?_) I.bare
  · rcases List.mem_cons.mp hb with z | hb
    · rw [z]; exact ⟨fk.2.2.2.1, fk.2.1, fk.2.2.2.2.1, fk.2.2.2.2.2⟩
    · rw [List.mem_singleton.mp hb]; exact ⟨fD.2.2.2.1, fD.2.1, fD.2.2.2.2.1, fD.2.2.2.2.2⟩
  · exact fun b o hc e => ⟨o, g b o (out b hc).1 (out b hc).2 e⟩
  · obtain ⟨o, es, ep, ho, r⟩ := hm
    exact ⟨o, es, ep, g _ o (Ne.symm fk.2.1) (Ne.symm fD.2.1) ho, r⟩
  · by_cases hb : b = D
    · subst hb
      rw [upd_same] at e
      cases e
      exact ⟨hz, its, n, hv, hD⟩
    · rw [upd_ne hb] at e
      refine (I.hok b u e).stay (fun c v hc q => ?_) (fun c q => by rw [upd_ne (nD c _ q)]; exact q) fun c ys q => by rw [upd_ne (nD c _ q)]; exact q
      rcases hc with z | z
      · exact g c v (by rw [z]; exact nK b u e) (by rw [z]; exact hb) q
      · exact g c v (nK c _ z) (nD c _ z) q
end
/-- the keys made so far -/
def Keys (K : PySem.W.Frag) (H : Hp) : List Pt → List Value → Prop := Paired fun c k => ∃ a, k = .ref a ∧ SqT K H a [.int c.2, .int c.1]
theorem Keys.mono {K : PySem.W.Frag} {H H' : Hp} (t : TK H H') {cs : List Pt} {ks : List Value} (h : Keys K H cs ks) : Keys K H' cs ks := Paired.mapP h fun _ _ ⟨a, e, q⟩ => ⟨a, e, t.sqT q⟩
theorem Paired.snoc {α β : Type} {R : α → β → Prop} : ∀ {as : List α} {bs : List β} {a : α} {b : β}, Paired R as bs → R a b → Paired R (as ++ [a]) (bs ++ [b])
  | _, _, _, _, .nil, h => .cons h .nil
  | _, _, _, _, .cons r t, h => .cons r (Paired.snoc t h)
theorem Paired.at {α β : Type} {R : α → β → Prop} : ∀ {as : List α} {bs : List β} {i : Nat} {a : α}, Paired R as bs → as[i]? = some a → ∃ b, bs[i]? = some b ∧ R a b
  | _, _, _, _, .nil, e => by simp at e
  | _, _, 0, _, .cons r _, e => by simp at e; subst e; exact ⟨_, rfl, r⟩
  | _, _, i + 1, a, .cons _ t, e => by
    obtain ⟨b, h1, h2⟩ := Paired.at (i := i) (a := a) t (by simpa using e)
    exact ⟨b, by simpa using h1, h2⟩
section
variable {X : Cx}
theorem key_read {pins : List (Addr × Obj)} {σ : St} {H : Hp} {s : Shared} (I : Inv X pins σ H s) {a : Addr} {y x : Int} (h : SqT X.K H a [.int y, .int x]) : ∃ o n t u, s.heap.get? a = some o ∧ o.cls = .type "tuple" ∧ o.data = .seq #[.int y t, .int x u] n := by
  obtain ⟨its, rv, ⟨o, e, c, n, d⟩, _⟩ := I.tuple h
  obtain ⟨u, v, rfl, ⟨t, rfl⟩, ⟨t', rfl⟩⟩ := vals2 rv
  exact ⟨o, n, t, t', e, c, by simpa using d⟩
theorem keys_tups {pins : List (Addr × Obj)} {σ : St} {H : Hp} {s : Shared} (I : Inv X pins σ H s) : ∀ {cs : List Pt} {ks : List Value}, Keys X.K H cs ks → ∃ fs, PySem.W.KatTups s.heap ks fs ∧ fs.length = ks.length ∧ ∀ v ∈ fs, ∃ i t, v = Value.int i t
  | _, _, .nil => ⟨[], trivial, rfl, fun _ h => nomatch h⟩
  | _, _, .cons (b := k) r t => by
    obtain ⟨a, rfl, q⟩ := r
    obtain ⟨o, n, t1, t2, e, c, d⟩ := key_read I q
    obtain ⟨fs, h1, h2, h3⟩ := keys_tups I t
    refine ⟨_ :: fs, .cons e c d rfl h1, by simp [h2], fun v hv => ?_⟩
    rcases List.mem_cons.mp hv with rfl | hv
    · exact ⟨_, _, rfl⟩
    · exact h3 v hv
theorem keys_ask {pins : List (Addr × Obj)} {σ : St} {H : Hp} {s : Shared} {A : Around} {E : Value → Shared → Prop} (I : Inv X pins σ H s) {a b : Addr} {c d : Pt} {C : Bool → Shared → Prop} (ha : SqT X.K H a [.int c.2, .int c.1]) (hb : SqT X.K H b [.int d.2, .int d.1]) (h : C (ltc d c) s) :
    wpAny (model X.prog X.w) A (keyLt' (tuples' true) (.ref a) (.ref b)) C E s := by
  obtain ⟨oa, na, t1, t2, ea, _, da⟩ := key_read I ha
  obtain ⟨ob, nb, u1, u2, eb, _, db⟩ := key_read I hb
  refine PySem.W.kat_lt ea da eb db (PySem.W.kat_cons (wpAny_eqBool_int ?_))
  have e0 : ltc d c = if c.2 = d.2 then (if c.1 = d.1 then false else decide (c.1 < d.1)) else decide (c.2 < d.2) := rfl
  by_cases h1 : c.2 = d.2
  · rw [show (c.2 == d.2) = true by simp [h1]]
    rw [e0, if_pos h1] at h
    refine PySem.W.kat_yes (PySem.W.kat_cons (wpAny_eqBool_int ?_))
    by_cases h2 : c.1 = d.1
    · rw [show (c.1 == d.1) = true by simp [h2]]
      rw [if_pos h2] at h
      exact PySem.W.kat_yes (PySem.W.kat_nil h)
    · rw [show (c.1 == d.1) = false by simp [h2]]
      rw [if_neg h2] at h
      exact PySem.W.kat_no (PySem.W.kat_one _ _ (lt_int h))
  · rw [show (c.2 == d.2) = false by simp [h1]]
    rw [e0, if_neg h1] at h
    exact PySem.W.kat_no (oneLt_int h)
end
end L3

namespace L3
open PySem PySem.Spec PyProof.Rows L2
theorem map_range_getD {α : Type} (xs : List α) (d : α) : (List.range xs.length).map (fun i => xs.getD i d) = xs := by
  apply List.ext_getElem?
  intro i
  rw [List.getElem?_map]
  by_cases hi : i < xs.length
  · rw [List.getElem?_range hi, List.getElem?_eq_getElem hi]
    simp [hi]
  · rw [List.getElem?_eq_none (by simpa using hi), List.getElem?_eq_none (by simpa using hi)]; rfl
theorem vals_pick {vs : List V} {its : List Value} (rv : Vals vs its) : ∀ {l : List Nat}, (∀ i ∈ l, i < vs.length) → Vals (l.map fun i => vs.getD i .non) (l.map fun i => its.getD i Value.none)
  | [], _ => .nil
  | i :: l, h => by
    have hi := h i (by simp)
    obtain ⟨u, hu, r⟩ := rv.get (List.getElem?_eq_getElem hi)
    refine .cons ?_ (vals_pick rv fun j hj => h j (by simp [hj]))
    have e1 : vs.getD i .non = vs[i] := by simp [hi]
    have e2 : its.getD i Value.none = u := by rw [List.getD_eq_getElem?_getD, hu]; rfl
    show RelV (vs.getD i .non) (its.getD i Value.none)
    rw [e1, e2]; exact r
theorem rep_pick {K : PySem.W.Frag} {H : Hp} {ps : List Pt} {vs : List V} (ra : RepL K H (ps.map prP) vs) : ∀ {l : List Nat}, (∀ i ∈ l, i < ps.length) → RepL K H ((l.map fun i => ps.getD i (0, 0)).map prP) (l.map fun i => vs.getD i .non)
  | [], _ => .nil
  | i :: l, h => by
    have hi := h i (by simp)
    obtain ⟨v, hv, r⟩ := ra.get (i := i) (d := prP ps[i]) (by rw [List.getElem?_map, List.getElem?_eq_getElem hi]; rfl)
    refine .cons ?_ (rep_pick ra fun j hj => h j (by simp [hj]))
    have e1 : ps.getD i (0, 0) = ps[i] := by simp [hi]
    have e2 : vs.getD i .non = v := by rw [List.getD_eq_getElem?_getD, hv]; rfl
    show Rep K H (prP (ps.getD i (0, 0))) (vs.getD i .non)
    rw [e1, e2]; exact r
theorem sorted_pick {M : Int} {ps : List Pt} {p : Array Nat} (hM : ∀ c ∈ ps, -M ≤ c.1 ∧ c.1 ≤ M) (pm : Pm ps.length p) (so : SorP (fun i => zc M (ps.getD i (0, 0))) p ps.length) : isort ps = p.toList.map fun i => ps.getD i (0, 0) := by
  have hmem : ∀ i, i < ps.length → ps.getD i (0, 0) ∈ ps := fun i hi => by rw [show ps.getD i (0, 0) = ps[i] by simp [hi]]; exact List.getElem_mem hi
  refine isort_of ?_ ?_
  · have h1 : p.toList.Perm (List.range ps.length) := by have := Array.Perm.toList pm; simpa using this
    have h2 := h1.map fun i => ps.getD i (0, 0)
    rw [map_range_getD] at h2
    exact h2
  · rw [List.pairwise_iff_getElem]
    intro i j hi hj hij
    have hsz := pm.size
    rw [List.length_map, Array.length_toList, hsz] at hi hj
    have key : ∀ t, t < ps.length → ∀ h, (p.toList.map fun i => ps.getD i (0, 0))[t]'h = ps.getD (p.getD t 0) (0, 0) := fun t ht h => by
      rw [List.getElem_map]
      have : p.toList[t]'(by simpa [hsz] using ht) = p.getD t 0 := by simp [Array.getD, hsz, ht]
      rw [this]
    rw [key i hi, key j hj]
    have h1 := so i j (Nat.le_of_lt hij) hj
    unfold leP
    rw [zc_lt (hM _ (hmem _ (pm.lt hi))) (hM _ (hmem _ (pm.lt hj)))]
    exact decide_eq_false (Int.not_lt.mpr h1)
section
variable {X : Cx} {pins : List (Addr × Obj)} {σ : St} {H : Hp} {s : Shared}
theorem sort_run (I : Inv X pins σ H s) {k : Nat} {f : Addr} {fd : FuncData} {pp : List Str} {sp : Sp3} (F : FnOk X.prog X.w X.K X.mg X.base CX0 k f fd pp (liftF X.K sp)) (hr : Room (k + 2) X.A) (hb : Binds X.K fd pp []) {a : Addr} {vs : List V} {ps : List Pt} {H3 : Hp3}
    (ga : H a = some (.lst vs)) (ra : RepL X.K H (ps.map prP) vs) (hr3 : HR X.K H3 H) (ko : KeyOk sp) (h64 : ps.length < 64) {Q : VK}
    (hQ : ∀ (D : Addr) (H'' : Hp), TK H H'' → HR X.K (upd3 H3 D (.lst ((isort ps).map prP))) H'' → H3 D = none → Q (.ref D) H'') :
    wpAny (model X.prog X.w) X.A (call (.builtin "sorted") [.ref a] [(Str.ofString "key", .ref f)]) (EP X pins σ Q) X.xe s := by
  obtain ⟨its, rv, pl, _⟩ := I.list (SqL.of ga)
  have hv : vs.length = ps.length := by rw [← ra.length, List.length_map]
  have hn : its.length = ps.length := by rw [← rv.length]; exact hv
  obtain ⟨M, hM0, hM⟩ := bound_ex ps
  refine sort_call (z := fun i => zc M (ps.getD i (0, 0))) pl.isList (by omega) fun D kS hD hk => ?_
  have hK : s.heap.objs.size ≤ kS := Nat.le_trans hD (Nat.le_of_lt hk)
  have nD : H D = none := I.hok.fresh hD
  have nK : H kS = none := I.hok.fresh hK
  have fD := (Inv.in2 I).fpOk (H' := H) hD nD
  have fk := (Inv.in2 I).fpOk (H' := H) hK nK
  have nc : ∀ (xs : Array Value) (e : Nat) (v : Option Value), (seqObj "list" xs e).data ≠ .cell v := fun _ _ _ z => by cases z
  refine ⟨fun e1 ks e s' => ∃ H', Inv (Cx.in2 X) (pins ++ [(D, seqObj "list" #[] e1)]) σ H' s' ∧ s'.heap.get? kS = some (seqObj "list" (List.toArray ks) e) ∧ H' kS = none ∧ TK H H' ∧ HR X.K H3 H' ∧ Keys X.K H' (ps.take ks.length) ks, ?_⟩
  constructor
  · intro e1 h' kp hD' hk'
    have I2 := (Inv.in2 I).kept (t' := s.toks) kp
    refine ⟨H, I2.pins_of fun p hp => ?_, hk', nK, TK.refl, hr3, .nil⟩
    rcases List.mem_append.mp hp with hp | hp
    · exact I2.pin p (List.mem_append_right _ hp)
    · rw [List.mem_singleton.mp hp]
      exact ⟨hD', nD, fD.2.1, fD.2.2.1, nc _ _⟩
  · rintro e1 ks e s1 ⟨H', J, h1, _⟩
    exact ⟨h1, (J.pin (D, seqObj "list" #[] e1) (by simp)).1⟩
  · rintro e1 ks e s1 x ⟨H', J, hk1, nk1, tk, hr', kr⟩ hx
    have hi : ks.length < ps.length := by have := (List.getElem?_eq_some_iff.mp hx).1; omega
    have hc : ps[ks.length]? = some ps[ks.length] := List.getElem?_eq_getElem hi
    generalize ps[ks.length] = c at hc
    obtain ⟨v, hv1, rep⟩ := ra.get (i := ks.length) (d := prP c) (by rw [List.getElem?_map, hc]; rfl)
    obtain ⟨u, hu, rx⟩ := rv.get hv1
    rw [hx] at hu
    cases hu
    have J2 : Inv (Cx.in2 X) (pins ++ [(D, seqObj "list" #[] e1), (kS, seqObj "list" (List.toArray ks) e)]) σ H' s1 := J.pins_of fun p hp => by
      rcases List.mem_append.mp hp with hp | hp
      · exact J.pin p (by simp [hp])
      · rcases List.mem_cons.mp hp with rfl | hp
        · exact J.pin _ (by simp)
        · rw [List.mem_singleton.mp hp]
          exact ⟨hk1, nk1, fk.2.1, fk.2.2.1, nc _ _⟩
    refine wpAny_mono (run_fn (X := Cx.in2 X) (E := E0) (Q := fun v H'' => TK H' H'' ∧ HR X.K H3 H'' ∧ Rep X.K H'' (.tup [.int c.2, .int c.1]) v) F (hr.in1.in1) hb .nil pass0 J2 (.cons rx .nil) ?_) (fun k s2 hk2 => ?_) fun _ _ z => z
    · exact ⟨[prP c], H3, fun d H3' => d = .tup [.int c.2, .int c.1] ∧ H3' = H3, hr', .cons (rep.mono tk) .nil, ko c H3 _ ⟨rfl, rfl⟩, fun d v H3'' H'' tk' hr'' rep' q => by
        obtain ⟨rfl, rfl⟩ := q
        exact ⟨tk', hr'', rep'⟩⟩
    · obtain ⟨v', H'', J3, rk, tk', hr'', rep'⟩ := hk2
      cases rep' with
      | tup sq rl =>
        cases rk
        have ex := RepL.ints_inv (ns := [c.2, c.1]) rl
        subst ex
        have pk := J3.pin (kS, seqObj "list" (List.toArray ks) e) (by simp)
        refine ⟨pk.1, fun c' h' sb hk' => ⟨H'', ?_, hk', pk.2.1, tk.trans tk', hr'', ?_⟩⟩
        · refine (J3.pins_of (pins' := pins ++ [(D, seqObj "list" #[] e1)]) fun p hp => J3.pin p ?_).turned (it := kS) (t' := s2.toks) (fun b o hb e => (sb.2 b hb).trans e) pk.2.1 fk.2.1 fk.2.2.2.1 fk.2.2.2.2.1 fun p hp => ?_
          · rcases List.mem_append.mp hp with hp | hp
            · simp [hp]
            · rw [List.mem_singleton.mp hp]; simp
          · rcases List.mem_append.mp hp with hp | hp
            · exact fk.2.2.2.2.2 p (List.mem_append_left _ hp)
            · rcases List.mem_append.mp hp with hp | hp
              · exact fk.2.2.2.2.2 p (List.mem_append_right _ hp)
              · rw [List.mem_singleton.mp hp]; exact Nat.ne_of_lt hk
        · rw [List.length_append, List.length_singleton, List.take_add_one, hc]
          exact Paired.snoc (Keys.mono tk' kr) ⟨_, rfl, SqT.of sq⟩
  · rintro e1 ks e s1 ⟨H', J, hk1, nk1, tk, hr', kr⟩ hl h2
    rw [List.take_of_length_le (by omega)] at kr
    obtain ⟨fs, t1, t2, t3⟩ := keys_tups J kr
    refine PySem.W.kat_kind (T := .type "int") t1 (by omega) (fun v hv => ?_) (by decide) ⟨rfl, ?_⟩
    · obtain ⟨i, t, rfl⟩ := t3 v hv
      exact PySem.W.Looks.now
    · intro i j C hi hj hC
      have hi' : i < ps.length := by omega
      have hj' : j < ps.length := by omega
      obtain ⟨ki, ei, ai, rfl, qi⟩ := Paired.at kr (List.getElem?_eq_getElem hi')
      obtain ⟨kj, ej, aj, rfl, qj⟩ := Paired.at kr (List.getElem?_eq_getElem hj')
      unfold PySem.W.kas_ask
      rw [show ks.getD i Value.none = .ref ai by rw [List.getD_eq_getElem?_getD, ei]; rfl, show ks.getD j Value.none = .ref aj by rw [List.getD_eq_getElem?_getD, ej]; rfl]
      refine keys_ask J qi qj ?_
      rw [zc_lt (hM _ (List.getElem_mem hj')) (hM _ (List.getElem_mem hi'))]
      have e1 : ps.getD i (0, 0) = ps[i] := by simp [hi']
      have e2 : ps.getD j (0, 0) = ps[j] := by simp [hj']
      have hC' : C (decide (zc M (ps.getD i (0, 0)) < zc M (ps.getD j (0, 0)))) s1 := hC
      rw [e1, e2] at hC'
      exact hC'
  · rintro e1 ks e s1 p ⟨H', J, hk1, nk1, tk, hr', kr⟩ hl pm so h' c g hD'
    have pD := J.pin (D, seqObj "list" #[] e1) (by simp)
    have nD' : H' D = none := pD.2.1
    rw [hn] at pm so
    have hlt : ∀ i ∈ p.toList, i < ps.length := fun i hi => by
      have h1 : p.toList.Perm (List.range ps.length) := by have := Array.Perm.toList pm; simpa using this
      simpa using h1.mem_iff.mp hi
    have hvals := vals_pick rv (l := p.toList) fun i hi => by rw [hv]; exact hlt i hi
    have J' := Inv.adopt (J.pins_of (pins' := pins) fun q hq => J.pin q (by simp [hq])) ⟨nD', fD.2⟩ ⟨nk1, fk.2⟩ g hD' hvals (by rw [List.length_map, Array.length_toList, pm.size, sizeLine_eq]; omega)
    refine ⟨.ref D, _, Inv.out2 I.ok J', rfl, hQ D _ (tk.trans (TK.fresh nD')) ?_ (hr3.fresh nD)⟩
    refine hr'.setL (TK.fresh nD') ?_
    rw [sorted_pick hM pm so]
    exact ((rep_pick ra hlt).mono tk).mono (TK.fresh nD')
theorem p3_sortedK {k : Nat} {x : Str} {pp : List Str} {sp : Sp3} {e : Expr} {te : TE3} {p pos kp kpos : Pos} (F : Fn X.prog X.w X.K X.mg X.base k x pp sp) (hr : Room (k + 2) X.A) (hs : X.mg "sorted" = none) (he : PE3 X e te)
    (hg : Gl X "sorted" := by rfl) (hx : Gl X x := by rfl) (hdb : (x == ("__debug__" : Str)) = false := by decide) (h1 : starEach [e] X.env = (false, eval e X.env) :: starEach [] X.env := by rfl)
    (h2 : backTo pos (starEach [e] X.env) = (false, eval e X.env) :: backTo pos (starEach [] X.env) := by rfl) (h3 : (backTo pos (starEach [e] X.env)).any (·.1) = false := by rfl) (h4 : (backToKw pos (keywordEach [⟨some "key", .Name x kp, kpos⟩] X.env)).all (·.1.isSome) = true := by rfl)
    (h5 : (backToKw pos (keywordEach [⟨some "key", .Name x kp, kpos⟩] X.env)).any (·.1.isNone) = false := by rfl) (h6 : (backToKw pos (keywordEach [⟨some "key", .Name x kp, kpos⟩] X.env)).filterMap (·.1) = [Str.ofString "key"] := by rfl) :
    PE3 X (.Call (.Name "sorted" p) [e] [⟨some "key", .Name x kp, kpos⟩] pos) (so3 sp te) := by
  obtain ⟨f, fd, F, hm, hkp, hb⟩ := F.ex
  intro pins s σ H Q I h
  obtain ⟨σ3, H3, Q3, sr, hr3, t, kk⟩ := h
  refine wpAny_Call_Name_kw (ld_blt I hg hs boot_sorted ?_ (by decide) (by decide))
  have pa : PA X [e] (tCons (liftE X.K te) tNil) := pa_cons he pa_nil h1
  refine callWith_kw (thn (pa pos pins s σ H (fun vs H1 => ∃ d v H31, vs = [v] ∧ TK H H1 ∧ HR X.K H31 H1 ∧ Rep X.K H1 d v ∧ sok sp d H31 Q3) I ⟨σ3, H3, _, sr, hr3, t, fun d v H3' H' tk hr' rep q => ⟨d, v, H3', rfl, tk, hr', rep, q⟩⟩) fun us s1 hq => ?_) h2 h3 h4 h5
  obtain ⟨vs, H1, I1, rvs, d, v, H31, rfl, tk1, hr1, rep1, q1⟩ := hq
  have pk : PK X [⟨some "key", .Name x kp, kpos⟩] (tCons (tC (.ref f)) tNil) := pk_cons (pe_glob (v := .ref f) hx hm rfl hdb) pk_nil
  refine thn (pk pos pins s1 σ H1 (fun zs H2 => zs = [.ref f] ∧ H2 = H1) I1 ⟨rfl, rfl⟩) fun ws s2 hq => ?_
  obtain ⟨zs, H2, I2, rz, rfl, rfl⟩ := hq
  obtain ⟨w1, rfl, rw1⟩ := vals1 rz
  cases rw1
  obtain ⟨u1, rfl, ru1⟩ := vals1 rvs
  rw [h6]
  cases rep1 with
  | ref a =>
    cases ru1
    unfold sok at q1
    dsimp only at q1
    split at q1
    · rename_i ds ha
      split at q1
      · rename_i ps ep
        obtain ⟨ko, h64, q1⟩ := q1
        have z := ptsOf_inv ep
        subst z
        obtain ⟨vs, ga, ra⟩ := hr1 a _ ha
        exact sort_run I2 F hr hb ga ra hr1 ko h64 fun D H'' tk hr'' nD => kk _ _ _ _ (tk1.trans tk) hr'' (.ref D) (q1 D nD)
      · exact q1.elim
    · exact q1.elim
  | _ => exact q1.elim
end
end L3

namespace L3
open PySem PySem.Spec PyProof.Rows L2
/-! ### dicts keyed by tuples of ints and texts -/
def keysOf : List D → Option (List Key)
  | [] => some []
  | .int i :: ds => (keysOf ds).map (Sum.inl i :: ·)
  | .str x :: ds => (keysOf ds).map (Sum.inr x :: ·)
  | _ :: _ => none
theorem keys_rep {K : PySem.W.Frag} {H : Hp} : ∀ {ds : List D} {xs : List V} {ks : List Key}, RepL K H ds xs → keysOf ds = some ks → xs = ks.map kV
  | _, _, _, .nil, h => by simp only [keysOf, Option.some.injEq] at h; subst h; rfl
  | _, _, _, .cons (d := d) r t, h => by
    cases r with
    | int i =>
      simp only [keysOf, Option.map_eq_some_iff] at h
      obtain ⟨ms, h1, rfl⟩ := h
      rw [keys_rep t h1]; rfl
    | str i =>
      simp only [keysOf, Option.map_eq_some_iff] at h
      obtain ⟨ms, h1, rfl⟩ := h
      rw [keys_rep t h1]; rfl
    | _ => simp [keysOf] at h
abbrev Tab := List (List Key × D)
def dlook (kvs : Tab) (k : List Key) : Option D := (kvs.find? fun kv => decide (kv.1 = k)).map (·.2)
def dput (kvs : Tab) (k : List Key) (d : D) : Tab := if (kvs.any fun kv => decide (kv.1 = k)) = true then kvs.map (fun kv => if kv.1 = k then (kv.1, d) else kv) else kvs ++ [(k, d)]
abbrev TR (K : PySem.W.Frag) (H : Hp) : Tab → List (List Key × V) → Prop := Paired (fun (p : List Key × D) (q : List Key × V) => p.1 = q.1 ∧ Rep K H p.2 q.2)
theorem TR.look {K : PySem.W.Frag} {H : Hp} {k : List Key} : ∀ {kvs : Tab} {ks : List (List Key × V)}, TR K H kvs ks → (valV ks k).isSome = (dlook kvs k).isSome ∧ ∀ d, dlook kvs k = some d → ∃ v, valV ks k = some v ∧ Rep K H d v
  | _, _, .nil => ⟨rfl, fun _ h => nomatch h⟩
  | _, _, .cons (a := p) (b := q) r t => by
    have ih := TR.look (k := k) t
    by_cases e : p.1 = k
    · have e' : q.1 = k := r.1.symm.trans e
      have l1 : ∀ rest : Tab, dlook (p :: rest) k = some p.2 := fun rest => by unfold dlook; rw [List.find?_cons_of_pos (by simpa using e)]; rfl
      rw [valV_pos e', l1]
      exact ⟨rfl, fun d h => ⟨_, rfl, by cases h; exact r.2⟩⟩
    · have e' : ¬ q.1 = k := fun z => e (r.1.trans z)
      have l1 : ∀ rest : Tab, dlook (p :: rest) k = dlook rest k := fun rest => by unfold dlook; rw [List.find?_cons_of_neg (by simpa using e)]
      rw [valV_neg e', l1]
      exact ih
theorem TR.any {K : PySem.W.Frag} {H : Hp} {k : List Key} : ∀ {kvs : Tab} {ks : List (List Key × V)}, TR K H kvs ks → (kvs.any fun kv => decide (kv.1 = k)) = ks.any fun kv => decide (kv.1 = k)
  | _, _, .nil => rfl
  | _, _, .cons r t => by rw [List.any_cons, List.any_cons, TR.any t, r.1]
theorem TR.repl {K : PySem.W.Frag} {H : Hp} {k : List Key} {d : D} {v : V} (rd : Rep K H d v) : ∀ {kvs : Tab} {ks : List (List Key × V)}, TR K H kvs ks → TR K H (kvs.map fun kv => if kv.1 = k then (kv.1, d) else kv) (ks.map fun kv => if kv.1 = k then (kv.1, v) else kv)
  | _, _, .nil => .nil
  | _, _, .cons (a := p) (b := q) r t => by
    refine .cons ?_ (TR.repl rd t)
    dsimp only
    by_cases e : p.1 = k
    · rw [if_pos e, if_pos (r.1.symm.trans e)]; exact ⟨r.1, rd⟩
    · rw [if_neg e, if_neg (fun z => e (r.1.trans z))]; exact r
theorem TR.put {K : PySem.W.Frag} {H : Hp} {k : List Key} {d : D} {v : V} {kvs : Tab} {ks : List (List Key × V)} (r : TR K H kvs ks) (rd : Rep K H d v) : TR K H (dput kvs k d) (putK ks k v) := by
  unfold dput putK
  rw [← TR.any r]
  split
  · exact TR.repl rd r
  · exact Paired.snoc r ⟨rfl, rd⟩
theorem TR.mono {K : PySem.W.Frag} {H H' : Hp} (t : TK H H') {kvs : Tab} {ks : List (List Key × V)} (r : TR K H kvs ks) : TR K H' kvs ks := Paired.mapP r fun _ _ z => ⟨z.1, z.2.mono t⟩
theorem HR.setD {K : PySem.W.Frag} {H : Hp} {H3 : Hp3} (h : HR K H3 H) {p : Addr} {ks : List (List Key × V)} {kvs : Tab} (t : TK H (upd H p (.dT ks))) (r : TR K (upd H p (.dT ks)) kvs ks) : HR K (upd3 H3 p (.dic kvs)) (upd H p (.dT ks)) := h.set (o3 := .dic kvs) t ⟨ks, upd_same, r⟩
/-! in, not in -/
def r3inD (neg : Bool) : R3 := fun x y H Q => match x, y with
  | .tup ds, .ref a => (match keysOf ds, H a with
    | some k, some (.dic kvs) => Q (.bl (if neg then !(dlook kvs k).isSome else (dlook kvs k).isSome)) H
    | _, _ => False)
  | _, _ => False
def r3inX (neg : Bool) : R3 := fun x y H Q => r3in neg x y H Q ∨ r3inD neg x y H Q
section
variable {X : Cx}
theorem op3_inX (hu : X.A.units + 64 < cLine) : OpR X (compareOp .In) (lift2 X.K (r3inX false)) := by
  intro pins s σ H x y v u Q I rx ry h
  obtain ⟨dx, dy, H3, Q3, hr, rdx, rdy, t, k⟩ := h
  rcases t with t | t
  · exact op3_in hu pins s σ H x y v u Q I rx ry ⟨dx, dy, H3, Q3, hr, rdx, rdy, t, k⟩
  · cases rdx with
    | tup ha ra =>
      cases rdy with
      | ref a =>
        simp only [r3inD] at t
        split at t
        · rename_i ks kvs e1 e2
          obtain ⟨vs, gd, rd⟩ := hr a _ e2
          cases ry
          have ex := keys_rep ra e1
          subst ex
          refine d_in (by omega) I (DGet.t gd ha) rx fun s' I' => ⟨.bl _, H, I', rfl, ?_⟩
          rw [(TR.look (k := ks) rd).1]
          exact k _ _ _ _ TK.refl hr (.bl _) t
        · exact t.elim
      | _ => exact t.elim
    | _ => exact t.elim
theorem op3_notInX (hu : X.A.units + 64 < cLine) : OpR X (compareOp .NotIn) (lift2 X.K (r3inX true)) := by
  intro pins s σ H x y v u Q I rx ry h
  obtain ⟨dx, dy, H3, Q3, hr, rdx, rdy, t, k⟩ := h
  rcases t with t | t
  · exact op3_notIn hu pins s σ H x y v u Q I rx ry ⟨dx, dy, H3, Q3, hr, rdx, rdy, t, k⟩
  · cases rdx with
    | tup ha ra =>
      cases rdy with
      | ref a =>
        simp only [r3inD] at t
        split at t
        · rename_i ks kvs e1 e2
          obtain ⟨vs, gd, rd⟩ := hr a _ e2
          cases ry
          have ex := keys_rep ra e1
          subst ex
          refine d_notIn (by omega) I (DGet.t gd ha) rx fun s' I' => ⟨.bl _, H, I', rfl, ?_⟩
          rw [(TR.look (k := ks) rd).1]
          exact k _ _ _ _ TK.refl hr (.bl _) t
        · exact t.elim
      | _ => exact t.elim
    | _ => exact t.elim
/-! d[k] = v -/
def dpk (v x y : D) (σ : St3) (H : Hp3) (R : St3 → Hp3 → Prop) : Prop := match x, y with
  | .ref a, .tup ds => (match keysOf ds, H a with
    | some k, some (.dic kvs) => kvs.length < 1000 ∧ R σ (upd3 H a (.dic (dput kvs k v)))
    | _, _ => False)
  | _, _ => False
def dp3 (td ty tv : TE3) : TS3 := fun D0 σ H => tv σ H fun v H1 => td σ H1 fun x H2 => ty σ H2 fun y H3 => dpk v x y σ H3 D0.nx
theorem s3_dput {o i value : Expr} {td ty tv : TE3} {pos pos' : Pos} (hu : X.A.units + 64 < cLine) (ho : PE3 X o td) (hi : PE3 X i ty) (hv : PE3 X value tv) (hs : swapsWith value (some (.Subscript o i pos')) pos.line X.env = pure false := by rfl) :
    PS3 X (.Assign [.Subscript o i pos'] value pos) (dp3 td ty tv) :=
  ps_imp (ps_dput (by omega) ho hi hv hs) fun D0 σ H ⟨σ3, H3, D3, sr, hr, t, k⟩ => ⟨σ3, H3, _, sr, hr, t, fun dv v H3a Ha tka hra rv qa => ⟨σ3, H3a, _, sr.mono tka, hra, qa, fun dx x H3b Hb tkb hrb rx qb => ⟨σ3, H3b, _, (sr.mono tka).mono tkb, hrb, qb, fun dy y H3c Hc tkc hrc ry qc => by
    cases rx with
    | ref a =>
      cases ry with
      | tup hb rb =>
        simp only [dpk] at qc
        split at qc
        · rename_i ks kvs e1 e2
          obtain ⟨vs, gd, rd⟩ := hrc a _ e2
          have ex := keys_rep rb e1
          subst ex
          obtain ⟨hl, qc⟩ := qc
          refine ⟨a, _, rfl, DPut.t gd hb (by rw [← Paired.length rd]; exact small1000 (Nat.le_of_lt hl)), ?_⟩
          have tt := TK.dT (o := .dT (putK vs ks v)) gd
          exact k.nx _ _ _ _ ((tka.trans (tkb.trans tkc)).trans tt) ((((sr.mono tka).mono tkb).mono tkc).mono tt) (hrc.setD tt (TR.put (TR.mono tt rd) (((rv.mono tkb).mono tkc).mono tt))) qc
        · exact qc.elim
      | _ => exact qc.elim
    | _ => exact qc.elim⟩⟩⟩
/-! {} -/
def dn3 : TE3 := fun _ H Q => ∀ p, H p = none → Q (.ref p) (upd3 H p (.dic []))
theorem p3_dnew {pos : Pos} : PE3 X (.Dict [] [] pos) dn3 := pe_imp pe_dnewT fun _ _ _ ⟨_, _, _, _, hr, t, k⟩ => fun p n => k _ _ _ _ (TK.fresh n) (hr.setD (TK.fresh n) .nil) (.ref p) (t p (hr.fresh n))
/-! {k: v} -/
theorem d_dictSet {pins : List (Addr × Obj)} {σ : St} {H : Hp} {s : Shared} {a b : Addr} {kvs : List (List Key × V)} {k : List Key} {v : V} {r : Value} {A : Around} {E : Value → Shared → Prop} {Q : Unit → Shared → Prop} (hu : A.units < cLine) (I : Inv X pins σ H s) (e : H a = some (.dT kvs)) (eb : H b = some (.tup (k.map kV)))
    (l : kvs.length < sizeLine) (rv : RelV v r) (h : ∀ s', Inv X pins σ (upd H a (.dT (putK kvs k v))) s' → Q () s') : wpAny (model X.prog X.w) A (dictSet a (.ref b) r) Q E s := by
  obtain ⟨z, hd, xs, rel, dd⟩ := dt_of I.hok e
  have hz : xs.length ≤ sizeLine := by rw [← Paired.length rel]; exact z
  have hl : (putK kvs k v).length ≤ sizeLine := Nat.le_trans (length_putK kvs k v) l
  refine wpAny_dictSet_heap (knd := tupleKind (mixKind X.prog X.w)) (hsz := hz) hu (key_of I.hok eb) dd fun h' dd' hs => h _ ?_
  obtain ⟨q, es, ep, hq, h2, h3, h4, _, h5⟩ := dd'
  exact d_write I (by rw [e]; exact True.intro) hs ⟨q, hq⟩ ⟨hl, hd, _, (rel.put k eb rv).keeps fun c ys ec => by rw [upd_ne (ne_of ec e (fun z => nomatch z))]; exact ec, q, es, ep, hq, h2, h3, h4, h5⟩
def ddk (p : Addr) (x y : D) (H : Hp3) (Q : VK3) : Prop := match x with
  | .tup ds => H p = some (.dic []) ∧ (match keysOf ds with
    | some k => Q (.ref p) (upd3 H p (.dic [(k, y)]))
    | none => False)
  | _ => False
def dd3 (tk tv : TE3) : TE3 := fun σ H Q => ∀ p, H p = none → tk σ (upd3 H p (.dic [])) fun x H1 => tv σ H1 fun y H2 => ddk p x y H2 Q
theorem p3_disp1 {ke ve : Expr} {tk tv : TE3} {pos : Pos} (hu : X.A.units < cLine) (hk : PE3 X ke tk) (hv : PE3 X ve tv) : PE3 X (.Dict [some ke] [ve] pos) (dd3 tk tv) := by
  intro pins s σ H Q I h
  obtain ⟨σ3, H3, Q3, sr, hr, t, k⟩ := h
  have hn := I.hok.fresh (Nat.le_refl s.heap.objs.size)
  have I1 := I.laid (a := s.heap.objs.size) (o := .dT []) (h' := s.heap.push { cls := .type "dict", data := .dict #[] }) (t' := s.toks) (fun _ _ q => Heap.get?_push_of_some _ q) (Nat.le_refl _) (dt_empty s.heap I.big)
  have pp : PPs X pos [some ke] [ve] [(liftE X.K tk, liftE X.K tv)] := pps_cons hk hv pps_nil
  have tk0 : TK H (upd H s.heap.objs.size (.dT [])) := TK.fresh hn
  refine wpAny_Dict_any rfl rfl (by simp) (by simp) (thn (pp pins _ σ _ (fun ps H2 => ∃ dx dy x y H32, ps = [(x, y)] ∧ TK H H2 ∧ HR X.K H32 H2 ∧ Rep X.K H2 dx x ∧ Rep X.K H2 dy y ∧ ddk s.heap.objs.size dx dy H32 Q3) I1 ?_) fun ws s2 hq => ?_)
  · exact ⟨σ3, _, _, sr.mono tk0, hr.setD tk0 .nil, t _ (hr.fresh hn), fun dx x H3a Ha tka hra rx qa => ⟨σ3, H3a, _, (sr.mono tk0).mono tka, hra, qa, fun dy y H3b Hb tkb hrb ry qb => ⟨dx, dy, x, y, H3b, rfl, (tk0.trans tka).trans tkb, hrb, rx.mono tkb, ry, qb⟩⟩⟩
  · obtain ⟨ps, H2, I2, rel, dx, dy, x, y, H32, rfl, tk2, hr2, rx, ry, q⟩ := hq
    cases rel with
    | cons r1 r2 =>
      cases r2
      rename_i w1
      obtain ⟨u1, u2⟩ := w1
      obtain ⟨r1, r2⟩ := r1
      unfold storeAll
      rw [List.forIn_cons]
      cases rx with
      | tup hb rb =>
        simp only [ddk] at q
        obtain ⟨q0, q⟩ := q
        split at q
        · rename_i ks e1
          have ex := keys_rep rb e1
          subst ex
          obtain ⟨vs, gd, rd⟩ := hr2 _ _ q0
          cases rd
          cases r1
          refine wpAny_bind (wpAny_bind (d_dictSet hu I2 gd hb (by rw [sizeLine_eq]; decide) r2 fun s' I' => wpAny_pure ?_))
          show wpAny _ _ (forIn [] PUnit.unit _) _ _ s'
          rw [List.forIn_nil]
          have tt := TK.dT (o := .dT (putK [] ks y)) gd
          exact wpAny_pure ⟨.ref _, _, I', rfl, k _ _ _ _ (tk2.trans tt) (hr2.setD tt (.cons ⟨rfl, ry.mono tt⟩ .nil)) (.ref _) q⟩
        · exact q.elim
      | _ => exact q.elim
end
/-! an exception that is never raised -/
def ra3 : TS3 := fun _ _ _ => False
theorem s3_never {X : Cx} {st : Stmt} : PS3 X st ra3 := fun _ _ _ _ _ _ h => by obtain ⟨_, _, _, _, _, t, _⟩ := h; exact t.elim
end L3

namespace L3
open PySem PySem.Spec PyProof.Rows L2
/-! ### dict(pairs): a list of pairs, the first of each a tuple of ints and texts -/
section
variable {prog : Program} {w : World} {A : Around} {E : Value → Shared → Prop} {s : Shared}
theorem list_no_keys : typeLookup (.type "list") "keys" = pure none := am_miss_of_fast (by kernel_rfl)
theorem keys_miss {a : Addr} {o : Obj} {xs : Array Value} {k : Nat} {Q : Option Value → Shared → Prop} (hx : s.heap.get? a = some o) (hc : o.cls = .type "list") (hdat : o.data = .seq xs k) (hd : o.dict = none) (hA : A.handled = none)
    (h : ∀ h' tk, (∀ b ob, s.heap.get? b = some ob → h'.get? b = some ob) → Q none { s with heap := h', toks := tk }) : wpAny (model prog w) A (getAttr? (.ref a) "keys") Q E s := by
  obtain ⟨c, dct, dat, sl⟩ := o
  simp only at hc hdat hd; subst hc hdat hd
  obtain ⟨hp, g, d, tk, os⟩ := s
  have hT : ∀ tk', (⟨hp, g, d, tk', os⟩ : Shared).TypeIs (.ref a) "list" := fun _ => ⟨_, hx, rfl⟩
  have f1 := sub_AttributeError; have f3 := F.slot_list_getattribute.lookup; have f4 := F.slot_list_getattribute.bind (.ref a); have f5 := am_list_getattr_none
  unfold getAttr? getAttrBy? getAttrBy
  repeat (any_goals (first | assumption | exact hT _ | ((with_reducible show wpAny _ _ (call (Value.builtin "list.__getattribute__") _ _) _ _ _); refine call_meets F.slot_list_getattribute (hT _) am_entry_list_getattribute (F.args_list_getattribute_2 _ _) (meets_getattribute_miss_list a xs k sl "keys" _ list_no_keys (by decide) (by decide)) ⟨hx, hA, fun h' tk' e hx' => ?_⟩) | wp_step))
  obtain ⟨t', u', he⟩ := id hx'.there
  show wpAny _ _ (getattributeRaised _ _ _ _ _ _ _) _ _ _
  unfold getattributeRaised
  repeat (any_goals (first | assumption | wp_step))
  all_goals exact h _ _ hx'.keeps
theorem entry_dloop : entryFor table "dict.update.loop" = some Builtin.«dict.update.loop» := entryFor_of_tree (by kernel_rfl)
theorem plain_dloop : plainId "dict.update.loop" = true := by decide +kernel
end
/-- the items of the list: pairs of a key's tuple and a value -/
def PairsIn (H : Hp) : List V → List (List Key × V) → Prop := Paired fun v p => ∃ t b, v = .ref t ∧ H t = some (.tup [.ref b, p.2]) ∧ H b = some (.tup (p.1.map kV))
theorem PairsIn.mono {H H' : Hp} (t : ∀ b xs, H b = some (.tup xs) → H' b = some (.tup xs)) {vs : List V} {ps : List (List Key × V)} (h : PairsIn H vs ps) : PairsIn H' vs ps := Paired.mapP h fun _ _ ⟨a, b, e, h1, h2⟩ => ⟨a, b, e, t _ _ h1, t _ _ h2⟩
theorem Paired.drop1 {α β : Type} {R : α → β → Prop} : ∀ {as : List α} {bs : List β} {i : Nat} {a : α}, Paired R as bs → as[i]? = some a → ∃ b, bs.drop i = b :: bs.drop (i + 1) ∧ R a b
  | _, _, _, _, .nil, e => by simp at e
  | _, _, 0, _, .cons r _, e => by simp at e; subst e; exact ⟨_, rfl, r⟩
  | _, _, i + 1, a, .cons _ t, e => by
    obtain ⟨b, h1, h2⟩ := Paired.drop1 (i := i) (a := a) t (by simpa using e)
    exact ⟨b, by simpa using h1, h2⟩
section
variable {X : Cx} {pins : List (Addr × Obj)} {σ : St}
theorem dict_loop {A : Around} {R : Result → Shared → Prop} {it a d : Addr} {vs : List V} {ps : List (List Key × V)} (hA : X.A = A.in1) (hc : X.calm = true) (hu : A.units + 2 < cLine) : ∀ (k i : Nat) (tk : Tok) (s : Shared) (H : Hp) (kvs : List (List Key × V)), vs.length - i = k → i ≤ vs.length →
    Inv X pins σ H s → s.heap.IsListIter it a i → FpOk X pins H it → H a = some (.lst vs) → H d = some (.dT kvs) → kvs.length + (vs.length - i) ≤ 2000 → PairsIn H vs ps →
    (∀ s' kvs', kvs' = (ps.drop i).foldl (fun acc kv => putK acc kv.1 kv.2) kvs → Inv X pins σ (upd H d (.dT kvs')) s' → R (.ok (.ret .none)) s') →
    codeAny (model X.prog X.w) A (.builtin "dict.update.loop" ⟨[.ref d, .ref it, .int (i : Int) tk, .none], []⟩) R s := by
  intro k
  induction k with
  | zero =>
    intro i tk s H kvs hk hi I st fi ha hd hl hp hR
    refine codeAny_builtin entry_dloop ?_
    rw [Around.under_plainId plain_dloop _]
    show wpAny _ A.in1 (pyNext (.ref it) >>= _) _ _ s
    obtain ⟨its, rv, p, hz⟩ := I.list (SqL.of ha)
    have hvl := rv.length
    have hpl := Paired.length hp
    obtain ⟨f0, f1, f2, f3, f4, f5⟩ := fi
    have hh : A.in1.handled = none := by rw [← hA]; exact I.ok.hd hc
    refine wpAny_bind (wpAny_pyNext_list_end hh st p.isList (by simp; omega) fun h' eb => ?_)
    have I1 : Inv X pins σ H { s with heap := h' } := I.turned (t' := s.toks) (fun b o hb e => eb b o hb e) f0 f1 f3 f4 f5
    refine wpAny_bind (m := Builtin.Dict.addKeywords d []) (wpAny_pure (wpAny_pure (hR _ kvs ?_ ?_)))
    · rw [List.drop_eq_nil_of_le (by omega)]; rfl
    · have : upd H d (.dT kvs) = H := by funext b; unfold upd; split
                                         · rename_i e; rw [e, hd]
                                         · rfl
      rw [this]; exact I1
  | succ k ih =>
    intro i tk s H kvs hk hi I st fi ha hd hl hp hR
    refine codeAny_builtin entry_dloop ?_
    rw [Around.under_plainId plain_dloop _]
    show wpAny _ A.in1 (pyNext (.ref it) >>= _) _ _ s
    obtain ⟨its, rv, p, hz⟩ := I.list (SqL.of ha)
    have hlt : i < vs.length := by omega
    obtain ⟨pr, hdr, t, b, ev, ht, hb⟩ := Paired.drop1 hp (List.getElem?_eq_getElem hlt)
    obtain ⟨u, hu1, ru⟩ := rv.get (List.getElem?_eq_getElem hlt)
    rw [ev] at ru
    cases ru
    obtain ⟨f0, f1, f2, f3, f4, f5⟩ := fi
    refine wpAny_bind (wpAny_pyNext_list_item st p.isList (x := .ref t) (by simpa using hu1) fun h' st' sb => ?_)
    have I1 : Inv X pins σ H { s with heap := h' } := I.turned (t' := s.toks) (fun b o hb e => (sb.2 b hb).trans e) f0 f1 f3 f4 f5
    obtain ⟨pit, rp, ⟨ot, et, ct, nt, dt⟩, _⟩ := I1.tuple (SqT.of (K := X.K) ht)
    obtain ⟨u1, u2, rfl, r1, r2⟩ := vals2 rp
    cases r1
    dsimp only
    refine wpAny_bind (wpAny_holding (wpAny_bind (wpAny_tryCatch ?_)))
    unfold Builtin.Dict.pairItems
    refine wpAny_bind (wpAny_typeOf (T := "tuple") ⟨ot, et, ct⟩ ?_)
    rw [if_pos (by decide)]
    refine wpAny_bind (wpAny_seqItems et dt (wpAny_pure ?_))
    have hud : A.in1.units < cLine := by show A.units + 1 < cLine; omega
    show wpAny _ A.in1 (holding _ (dictSet d (.ref b) u2)) _ _ _
    obtain ⟨oi, ei, ci, di⟩ := id st'
    have Ip : Inv X (pins ++ [(it, oi)]) σ H { s with heap := h' } := I1.pins_of fun q hq => by
      rcases List.mem_append.mp hq with hq | hq
      · exact I1.pin q (List.mem_append_right _ hq)
      · rw [List.mem_singleton.mp hq]
        exact ⟨ei, f0, f1, f2, fun v z => by rw [di] at z; cases z⟩
    refine wpAny_holding (d_dictSet hud Ip hd hb (by rw [sizeLine_eq]; omega) r2 fun s2 I2 => ?_)
    have nd : ∀ c xs, H c = some (.tup xs) → upd H d (.dT (putK kvs pr.1 pr.2)) c = some (.tup xs) := fun c xs e => by rw [upd_ne (ne_of e hd (fun z => nomatch z))]; exact e
    have pi := I2.pin (it, oi) (by simp)
    have st2 : s2.heap.IsListIter it a (i + 1) := ⟨oi, pi.1, ci, di⟩
    have I3 : Inv X pins σ (upd H d (.dT (putK kvs pr.1 pr.2))) s2 := I2.pins_of fun q hq => I2.pin q (by simp [hq])
    have hlp := length_putK kvs pr.1 pr.2
    refine wpAny_pure ⟨plainId_quiet plain_dloop _, ?_⟩
    refine ih (i + 1) 0 s2 _ _ (by omega) hlt I3 st2 ⟨pi.2.1, f1, f2, f3, f4, f5⟩ (by rw [upd_ne (ne_of ha hd (fun z => nomatch z))]; exact ha) upd_same (by omega) (hp.mono nd) fun s' kvs' ek I' => hR s' kvs' ?_ ?_
    · rw [ek, hdr]; rfl
    · rw [upd_upd] at I'; exact I'
theorem dict_of {s : Shared} {H : Hp} {a : Addr} {vs : List V} {ps : List (List Key × V)} {Q : Value → Shared → Prop} (hc : X.calm = true) (hu : X.A.units + 64 < cLine) (I : Inv X pins σ H s) (ha : H a = some (.lst vs)) (hp : PairsIn H vs ps) (hl : vs.length ≤ 1000)
    (h : ∀ d s', H d = none → Inv X pins σ (upd H d (.dT (ps.foldl (fun acc kv => putK acc kv.1 kv.2) []))) s' → Q (.ref d) s') : wpAny (model X.prog X.w) X.A (call (.type "dict") [.ref a]) Q X.xe s := by
  refine callType_codes (Q₁ := fun obj s₁ => obj = .ref s.heap.objs.size ∧ s₁ = { s with heap := s.heap.push { cls := .type "dict", data := .dict #[] } }) F.kt_called_dict (F.kt_typeCall_dict_1 _) F.entry_dict_init (kt_code_dict_new _ ⟨rfl, rfl⟩) fun obj s₁ hq => ?_
  obtain ⟨rfl, rfl⟩ := hq
  have nd : H s.heap.objs.size = none := I.hok.fresh (Nat.le_refl _)
  have I1 := I.laid (a := s.heap.objs.size) (o := .dT []) (h' := s.heap.push { cls := .type "dict", data := .dict #[] }) (t' := s.toks) (fun _ _ q => Heap.get?_push_of_some _ q) (Nat.le_refl _) (dt_empty s.heap I.big)
  have ha1 : upd H s.heap.objs.size (.dT []) a = some (.lst vs) := by rw [upd_ne (ne_of_none ha nd)]; exact ha
  have hT : ({ s with heap := s.heap.push { cls := .type "dict", data := .dict #[] } } : Shared).TypeIs (.ref s.heap.objs.size) "dict" := ⟨_, Heap.get?_push_size _ rfl, rfl⟩
  obtain ⟨its, rv, ⟨o, n, eo, co, dk, do'⟩, _⟩ := I1.list (SqL.of ha1)
  have hh : X.A.in1.in1.handled = none := I.ok.hd hc
  refine ⟨hT, F.args_dict_init_2 _ _, ?_⟩
  unfold Builtin.«dict.__init__» Builtin.Dict.selfAndRest
  refine wpAny_bind (wpAny_bind (wpAny_notOrdered_dict hT ?_))
  show wpAny _ _ (pure (s.heap.objs.size, [Value.ref a])) _ _ _
  refine wpAny_pure ?_
  show wpAny _ _ (Builtin.Dict.updateFrom "dict.__init__" s.heap.objs.size (.ref a) [] .none) _ _ _
  unfold Builtin.Dict.updateFrom
  refine wpAny_bind (wpAny_typeOf (T := "list") ⟨o, eo, co⟩ ?_)
  rw [if_pos (by decide)]
  refine wpAny_bind (keys_miss eo co do' dk hh fun h' tk kp => ?_)
  have I2 := (Inv.in2 I1).kept (t' := tk) kp
  obtain ⟨its2, rv2, p2, _⟩ := I2.list (SqL.of ha1)
  rw [if_pos (by rfl)]
  refine wpAny_bind (wpAny_rule ?_)
  refine wpAny_bind (wpAny_pyIter_list p2.isList ?_)
  have hn := I2.hok.fresh (Nat.le_refl _)
  have I3 := I2.kept (t' := tk) (h' := h'.push { cls := .type "list_iterator", data := .fields #[.ref a, .int 0 0] }) (fun b ob q => Heap.get?_push_of_some _ q)
  refine wpAny_pure ⟨plainId_quiet plain_dloop _, ?_⟩
  have hlp : vs.length - 0 = vs.length := rfl
  refine dict_loop (X := Cx.in2 X) (it := h'.objs.size) (a := a) (vs := vs) (ps := ps) rfl hc (show X.A.units + 1 + 2 < cLine by omega) vs.length 0 0 _ _ [] rfl (Nat.zero_le _) I3 ⟨_, Heap.get?_push_size _ rfl, rfl, rfl⟩ (I2.fpOk (Nat.le_refl _) hn) ha1 upd_same (by simp; omega) (hp.mono fun b xs e => by rw [upd_ne (ne_of_none e nd)]; exact e) fun s' kvs' ek I' => ⟨rfl, h _ s' nd ?_⟩
  rw [upd_upd, ek] at I'
  exact Inv.out2 I.ok I'
end
/-! over data -/
def prsOf : List D → Option Tab
  | [] => some []
  | .tup [.tup ks, y] :: ds => (match keysOf ks, prsOf ds with
    | some k, some r => some ((k, y) :: r)
    | _, _ => none)
  | _ :: _ => none
def dfold (kvs more : Tab) : Tab := more.foldl (fun acc kv => dput acc kv.1 kv.2) kvs
theorem prs_rep {K : PySem.W.Frag} {H : Hp} : ∀ {ds : List D} {vs : List V} {tb : Tab}, RepL K H ds vs → prsOf ds = some tb → ∃ ps, PairsIn H vs ps ∧ TR K H tb ps
  | _, _, _, .nil, h => by simp only [prsOf, Option.some.injEq] at h; subst h; exact ⟨[], .nil, .nil⟩
  | d :: _, _, _, .cons r t, h => by
    unfold prsOf at h
    split at h
    · rename_i e; cases e
    · rename_i e
      cases e
      split at h
      · rename_i k r' e1 e2
        cases h
        obtain ⟨ps, h1, h2⟩ := prs_rep t e2
        cases r with
        | tup ha ra =>
          cases ra with
          | cons q1 q2 =>
            cases q2 with
            | cons q2 q3 =>
              cases q3
              cases q1 with
              | tup hb rb =>
                have ex := keys_rep rb e1
                subst ex
                exact ⟨(k, _) :: ps, .cons ⟨_, _, rfl, ha, hb⟩ h1, .cons ⟨rfl, q2⟩ h2⟩
      · cases h
    · cases h
theorem TR.fold {K : PySem.W.Frag} {H : Hp} : ∀ {more : Tab} {ms : List (List Key × V)} {kvs : Tab} {ks : List (List Key × V)}, TR K H more ms → TR K H kvs ks → TR K H (dfold kvs more) (ms.foldl (fun acc kv => putK acc kv.1 kv.2) ks)
  | _, _, _, _, .nil, q => q
  | _, _, _, _, .cons (a := p) (b := m) r t, q => by
    have e := TR.put (k := p.1) q r.2
    have := TR.fold t e
    unfold dfold at this ⊢
    rw [List.foldl_cons, List.foldl_cons, ← r.1]
    exact this
def r3dict : List D → Hp3 → VK3 → Prop := fun ds H Q => match ds with
  | [.ref a] => (match H a with
    | some (.lst xs) => (match prsOf xs with
      | some tb => xs.length ≤ 1000 ∧ ∀ p, H p = none → Q (.ref p) (upd3 H p (.dic (dfold [] tb)))
      | none => False)
    | _ => False)
  | _ => False
theorem cb3_dict {X : Cx} (hc : X.calm = true) (hu : X.A.units + 64 < cLine) : CallR X (.type "dict") (liftC X.K r3dict) := by
  intro pins s σ H xs us Q I rs h
  obtain ⟨ds, H3, Q3, hr, rd, t, k⟩ := h
  cases rd with
  | nil => exact t.elim
  | cons r1 r2 =>
    cases r2 with
    | cons _ _ => cases r1 <;> exact t.elim
    | nil =>
      cases r1 with
      | ref a =>
        simp only [r3dict] at t
        split at t
        · rename_i xs ha
          split at t
          · rename_i tb et
            obtain ⟨vs, ga, ra⟩ := hr a _ ha
            obtain ⟨u, rfl, ru⟩ := vals1 rs
            cases ru
            obtain ⟨ps, h1, h2⟩ := prs_rep ra et
            refine dict_of hc hu I ga h1 (by rw [← ra.length]; exact t.1) fun d s' nd I' => ⟨.ref d, _, I', rfl, ?_⟩
            exact k _ _ _ _ (TK.fresh nd) (hr.setD (TK.fresh nd) (TR.mono (TK.fresh nd) (TR.fold h2 .nil))) (.ref d) (t.2 d (hr.fresh nd))
          · exact t.elim
        · exact t.elim
      | _ => exact t.elim
end L3
namespace L3
open PySem PySem.Spec PyProof.Rows L2
/-- a name of the module: an int -/
theorem p3_globE {X : Cx} {x : Str} {i : Int} {pos : Pos} (hg : Gl X x) (hm : ∃ tk, X.mg x = some (.int i tk)) (hd : (x == ("__debug__" : Str)) = false := by decide) : PE3 X (.Name x pos) (c3 (.int i)) := by
  obtain ⟨tk, hm⟩ := hm
  exact p3_globI hg hm hd
end L3

namespace L3
open PySem L2
/-! ### steps: dicts of pairs -/
def kP (c : Pt) : List Key := [Sum.inl c.1, Sum.inl c.2]
theorem kP_inj {a b : Pt} (h : kP a = kP b) : a = b := by
  unfold kP at h
  simp only [List.cons.injEq, Sum.inl.injEq, and_true] at h
  exact Prod.ext h.1 h.2
def tabP (ps : List Pt) : Tab := ps.map fun c => (kP c, D.bl true)
def addN (ps : List Pt) (c : Pt) : List Pt := if c ∈ ps then ps else ps ++ [c]
theorem dlook_tab (c : Pt) : ∀ ps : List Pt, (dlook (tabP ps) (kP c)).isSome = decide (c ∈ ps)
  | [] => rfl
  | p :: ps => by
    unfold tabP dlook
    rw [List.map_cons]
    by_cases e : p = c
    · subst e
      rw [List.find?_cons_of_pos (by simp)]
      simp
    · have e' : ¬ kP p = kP c := fun z => e (kP_inj z)
      rw [List.find?_cons_of_neg (by simpa using e')]
      have ih := dlook_tab c ps
      unfold tabP dlook at ih
      rw [ih]
      have e2 : ¬ c = p := fun z => e z.symm
      simp [e2]
theorem any_tab (c : Pt) (ps : List Pt) : ((tabP ps).any fun kv => decide (kv.1 = kP c)) = decide (c ∈ ps) := by
  induction ps with
  | nil => rfl
  | cons p ps ih =>
    have e0 : tabP (p :: ps) = (kP p, D.bl true) :: tabP ps := rfl
    rw [e0, List.any_cons, ih]
    by_cases e : p = c
    · subst e; simp
    · have e' : ¬ kP p = kP c := fun z => e (kP_inj z)
      have e2 : ¬ c = p := fun z => e z.symm
      simp [e', e2]
theorem dput_tab (ps : List Pt) (c : Pt) : dput (tabP ps) (kP c) (.bl true) = tabP (addN ps c) := by
  unfold dput addN
  rw [any_tab]
  by_cases h : c ∈ ps
  · rw [if_pos (decide_eq_true h), if_pos h]
    unfold tabP
    rw [List.map_map]
    refine List.map_congr_left fun p _ => ?_
    show (if kP p = kP c then (kP p, D.bl true) else (kP p, D.bl true)) = _
    split <;> rfl
  · rw [if_neg (by simpa using h), if_neg h]
    unfold tabP
    rw [List.map_append]; rfl
theorem dfold_tab : ∀ (ps acc : List Pt), dfold (tabP acc) (tabP ps) = tabP (ps.foldl addN acc)
  | [], _ => rfl
  | p :: ps, acc => by
    have e0 : tabP (p :: ps) = (kP p, D.bl true) :: tabP ps := rfl
    unfold dfold
    rw [e0, List.foldl_cons, dput_tab, List.foldl_cons]
    exact dfold_tab ps _
theorem mem_addN {ps : List Pt} {c x : Pt} : x ∈ addN ps c ↔ x ∈ ps ∨ x = c := by
  unfold addN
  split
  · rename_i h
    constructor
    · exact .inl
    · rintro (h1 | rfl)
      · exact h1
      · exact h
  · simp
theorem mem_addNs {x : Pt} : ∀ {ps acc : List Pt}, x ∈ ps.foldl addN acc ↔ x ∈ acc ∨ x ∈ ps
  | [], acc => by simp
  | p :: ps, acc => by
    rw [List.foldl_cons, mem_addNs, mem_addN, List.mem_cons]
    constructor
    · rintro ((h | h) | h)
      · exact .inl h
      · exact .inr (.inl h)
      · exact .inr (.inr h)
    · rintro (h | h | h)
      · exact .inl (.inl h)
      · exact .inl (.inr h)
      · exact .inr h
theorem addNs_len : ∀ (ps acc : List Pt), (ps.foldl addN acc).length ≤ acc.length + ps.length
  | [], acc => by simp
  | p :: ps, acc => by
    rw [List.foldl_cons]
    have h1 := addNs_len ps (addN acc p)
    have h2 : (addN acc p).length ≤ acc.length + 1 := by unfold addN; split <;> simp
    rw [List.length_cons]; omega
theorem prs_tab : ∀ ps : List Pt, prsOf (ps.map fun c => D.tup [prP c, .bl true]) = some (tabP ps)
  | [] => rfl
  | p :: ps => by
    rw [List.map_cons]
    have e : keysOf [D.int p.1, .int p.2] = some (kP p) := rfl
    unfold prP
    simp only [prsOf, e]
    have ih := prs_tab ps
    unfold prP at ih
    rw [ih]; rfl
section
variable {σ : St3} {H : Hp3} {Q : VK3} {D0 : Ends3} {a p : Addr} {x y : D} {ta tb te : TE3} {p1 p2 : Int} {ps : List Pt}
theorem g_inX (h : seqH H y = some (ps.map prP)) (q : Q (.bl (decide ((p1, p2) ∈ ps))) H) : r3inX false (.tup [.int p1, .int p2]) y H Q := .inl (g_inP h q)
theorem g_ninX (h : seqH H y = some (ps.map prP)) (q : Q (.bl (!decide ((p1, p2) ∈ ps))) H) : r3inX true (.tup [.int p1, .int p2]) y H Q := .inl (g_ninP h q)
theorem g_inD (h : H a = some (.dic (tabP ps))) (q : Q (.bl (decide ((p1, p2) ∈ ps))) H) : r3inX false (.tup [.int p1, .int p2]) (.ref a) H Q := by
  refine .inr ?_
  have e : keysOf [D.int p1, .int p2] = some (kP (p1, p2)) := rfl
  simp only [r3inD, e, h, dlook_tab]
  exact q
theorem g_ninD (h : H a = some (.dic (tabP ps))) (q : Q (.bl (!decide ((p1, p2) ∈ ps))) H) : r3inX true (.tup [.int p1, .int p2]) (.ref a) H Q := by
  refine .inr ?_
  have e : keysOf [D.int p1, .int p2] = some (kP (p1, p2)) := rfl
  simp only [r3inD, e, h, dlook_tab]
  exact q
theorem g_dp (h : te σ H fun v H1 => ta σ H1 fun x H2 => tb σ H2 fun y H3 => dpk v x y σ H3 D0.nx) : dp3 ta tb te D0 σ H := h
theorem g_dpk {R : St3 → Hp3 → Prop} (ha : H a = some (.dic (tabP ps))) (hl : ps.length < 1000) (q : R σ (upd3 H a (.dic (tabP (addN ps (p1, p2)))))) : dpk (.bl true) (.ref a) (.tup [.int p1, .int p2]) σ H R := by
  have e : keysOf [D.int p1, .int p2] = some (kP (p1, p2)) := rfl
  simp only [dpk, e, ha, dput_tab]
  exact ⟨by unfold tabP; rw [List.length_map]; exact hl, q⟩
theorem g_dn (h : ∀ p, H p = none → Q (.ref p) (upd3 H p (.dic []))) : dn3 σ H Q := h
theorem g_dd (h : ∀ p, H p = none → ta σ (upd3 H p (.dic [])) fun x H1 => tb σ H1 fun y H2 => ddk p x y H2 Q) : dd3 ta tb σ H Q := h
theorem g_ddk (h : H p = some (.dic [])) (q : Q (.ref p) (upd3 H p (.dic (tabP [(p1, p2)])))) : ddk p (.tup [.int p1, .int p2]) (.bl true) H Q := by
  have e : keysOf [D.int p1, .int p2] = some (kP (p1, p2)) := rfl
  simp only [ddk, e]; exact ⟨h, q⟩
theorem g_dict (ha : H a = some (.lst (ps.map fun c => D.tup [prP c, .bl true]))) (hl : ps.length ≤ 1000) (q : ∀ p, H p = none → Q (.ref p) (upd3 H p (.dic (tabP (ps.foldl addN []))))) : r3dict [.ref a] H Q := by
  have e : dfold [] (tabP ps) = tabP (ps.foldl addN []) := dfold_tab ps []
  simp only [r3dict, ha, prs_tab, e]
  exact ⟨by rw [List.length_map]; exact hl, q⟩
end
end L3

namespace Law
open PySem PySem.Spec PyProof.Rows L2 L3
set_option maxHeartbeats 8000000
abbrev N_rank_of : List Str := ["cell"]
abbrev P_rank_of : List Str := ["cell"]
abbrev N_in_order : List Str := ["some"]
abbrev P_in_order : List Str := ["some"]
abbrev N_around : List Str := ["cell", "x", "y"]
abbrev P_around : List Str := ["cell"]
abbrev N_unlike_in_order : List Str := ["some", "unlike", "cell"]
abbrev P_unlike_in_order : List Str := ["some"]
abbrev N_reached_within : List Str := ["some", "start", "free", "reached", "waiting", "cell", "near"]
abbrev P_reached_within : List Str := ["some", "start"]
abbrev N_first_cut_off : List Str := ["some", "reached", "cell"]
abbrev P_first_cut_off : List Str := ["some"]
abbrev N_empty_in_box : List Str := ["cells", "xs", "ys", "empty", "y", "x"]
abbrev P_empty_in_box : List Str := ["cells"]
abbrev N_piece_of : List Str := ["some", "cells", "apart", "shut_in"]
abbrev P_piece_of : List Str := ["some"]
abbrev N_l_cell_at : List Str := ["_law_script", "_law_k"]
abbrev P_l_cell_at : List Str := ["_law_script", "_law_k"]
abbrev N_l_mix : List Str := ["_law_script", "_law_k"]
abbrev P_l_mix : List Str := ["_law_script", "_law_k"]
abbrev N_l_whole : List Str := ["_law_found"]
abbrev P_l_whole : List Str := ["_law_found"]
abbrev N_l_is_pair : List Str := ["_law_found"]
abbrev P_l_is_pair : List Str := ["_law_found"]
abbrev N_l_is_piece : List Str := ["_law_found", "_law_due", "_law_k"]
abbrev P_l_is_piece : List Str := ["_law_found", "_law_due"]
abbrev N_l_sorted : List Str := ["_law_cells", "_law_row", "_law_cell", "_law_at"]
abbrev P_l_sorted : List Str := ["_law_cells"]
abbrev N_l_beside : List Str := ["_law_cell"]
abbrev P_l_beside : List Str := ["_law_cell"]
abbrev N_l_shuts_in : List Str := ["_law_cells", "_law_spot", "_law_x", "_law_y", "_law_ring", "_law_empty", "_law_runs", "_law_k"]
abbrev P_l_shuts_in : List Str := ["_law_cells", "_law_spot"]
abbrev N_l_grown : List Str := ["_law_script", "_law_at", "_law_many", "_law_cells", "_law_k", "_law_cell", "_law_side"]
abbrev P_l_grown : List Str := ["_law_script", "_law_at", "_law_many"]
abbrev N_l_far : List Str := ["_law_cell"]
abbrev P_l_far : List Str := ["_law_cell"]
abbrev N_law : List Str := ["_law_script", "_law_grown_here", "_law_x", "_law_y", "_law_cells", "_law_cut", "_law_some", "_law_cell", "_law_handed", "_law_found"]
abbrev P_law : List Str := ["_law_script"]
/-! one step of a reading; "l3h": what stands in the heap; "l3a": a side's arithmetic; "l3c": a call by its specification; "l3": as far as it goes -/
local macro_rules | `(tactic| walk_at "l3h") => `(tactic| first
  | with_reducible exact upd3_same
  | assumption
  | exact upd3_old (by walk_at "l3h") (by assumption))
local macro_rules | `(tactic| walk_at "l3a") => `(tactic| first
  | with_reducible assumption
  | decide
  | omega
  | exact ⟨by decide, by decide⟩
  | exact Or.inl ⟨by decide, by decide⟩
  | exact Or.inr ⟨by decide, by decide⟩
  | exact ⟨by decide, by decide, by decide⟩
  | exact Or.inl ⟨by omega, by omega⟩
  | exact Or.inr ⟨by omega, by omega⟩
  | exact ⟨by omega, by omega⟩)
local macro_rules | `(tactic| walk_at "l3s") => `(tactic| first
  | with_reducible refine g_sq ?_
  | ((with_reducible show v3 _ _ _ _); refine g_v3 rfl ?_)
  | with_reducible refine g_c3 ?_
  | with_reducible refine g_o3 ?_
  | with_reducible refine g_st ?_
  | ((fail_if_success (with_reducible show Ends3.nx (fin3 _) _ _)); (with_reducible refine g_nx ?_); (try dsimp only [List.set_cons_zero, List.set_cons_succ]))
  | with_reducible refine g_cb ?_
  | with_reducible refine g_cons ?_
  | with_reducible refine g_nil ?_
  | with_reducible refine g_is ?_
  | with_reducible refine g_ts ?_
  | with_reducible refine g_bt ?_
  | with_reducible refine g_rt3 ?_
  | ((fail_if_success (with_reducible show Ends3.rt (fin3 _) _ _)); with_reducible refine g_rt ?_)
  | with_reducible refine g_tp ?_
  | ((with_reducible show List.length _ ≤ 1000 ∧ _); refine g_and rfl ?_)
  | with_reducible refine g_add ?_
  | with_reducible refine g_sub ?_
  | with_reducible refine g_eqI ?_
  | with_reducible refine g_neI ?_
  | with_reducible refine g_eqP ?_
  | with_reducible refine g_neP ?_
  | with_reducible refine g_le ?_
  | with_reducible refine g_lt ?_
  | with_reducible refine g_gt ?_
  | with_reducible refine g_ge ?_
  | with_reducible refine g_ltT ?_
  | with_reducible refine g_neg ?_
  | with_reducible refine g_u3 ?_
  | ((with_reducible show i3mul _ _ _ _); refine g_mul (by walk_at "l3a") ?_)
  | ((with_reducible show i3div _ _ _ _); refine g_div (by walk_at "l3a") ?_)
  | ((with_reducible show i3mod _ _ _ _); refine g_mod (by walk_at "l3a") ?_)
  | ((with_reducible show i3pow _ _ _ _); refine g_pow (by walk_at "l3a") ?_)
  | ((with_reducible show r3ix (D.tup _) (D.int _) _ _); refine g_ixT rfl ?_)
  | with_reducible refine g_an ?_
  | with_reducible refine g_or ?_
  | with_reducible refine g_no ?_
  | with_reducible refine g_av ?_
  | with_reducible refine g_avk ?_
  | with_reducible refine g_ov ?_
  | with_reducible refine g_ovk ?_
  | with_reducible refine g_nv ?_
  | with_reducible refine g_nvk ?_
  | with_reducible refine g_if3 ?_
  | with_reducible refine g_isN ?_
  | with_reducible refine g_notN ?_
  | with_reducible refine g_ls ?_
  | with_reducible refine g_lenT ?_
  | with_reducible refine g_lenF ?_
  | ((with_reducible show r3len [D.ref _] _ _); refine g_lenL (by walk_at "l3h") ?_)
  | with_reducible refine g_tupT ?_
  | ((with_reducible show r3tuple [D.ref _] _ _); refine g_tupL (by walk_at "l3h") ?_)
  | with_reducible refine g_listT ?_
  | ((with_reducible show r3list [D.ref _] _ _); refine g_listL (by walk_at "l3h") ?_)
  | with_reducible refine g_sl ?_
  | with_reducible refine g_np ?_
  | with_reducible refine g_pt ?_
  | with_reducible refine g_ptk ?_
  | with_reducible refine g_slF ?_
  | ((with_reducible show r3sl (D.ref _) _ _ _ _); refine g_slL (by walk_at "l3h") ?_)
  | with_reducible refine g_nx3 ?_
  | with_reducible refine g_br3 ?_
  | with_reducible refine g_co3 ?_
  | with_reducible refine g_dr ?_
  | with_reducible refine g_rn3 ?_
  | with_reducible refine g_as ?_
  | ((with_reducible refine g_gn ?_); (try dsimp only [List.set_cons_zero, List.set_cons_succ]))
  | ((with_reducible refine g_g2 ?_); (try dsimp only [List.set_cons_zero, List.set_cons_succ]))
  | ((with_reducible refine g_g3 ?_); (try dsimp only [List.set_cons_zero, List.set_cons_succ]))
  | with_reducible refine g_bk ?_
  | with_reducible refine g_ct ?_
  | with_reducible refine g_fo ?_
  | with_reducible refine g_ir1 ?_
  | with_reducible refine g_ir2 ?_
  | with_reducible refine g_rg1 ?_
  | with_reducible refine g_rg2 ?_
  | with_reducible refine g_il ?_
  | ((with_reducible show ilk (D.ref _) _ _); refine g_ilR (by walk_at "l3h") ?_)
  | with_reducible refine g_ilF ?_
  | with_reducible refine g_it ?_
  | with_reducible refine g_itT ?_
  | with_reducible refine g_m3 ?_
  | ((with_reducible show mtk _ _ _ (D.ref _) _ _); refine g_mtk (by walk_at "l3h") ?_)
  | with_reducible refine g_dp ?_
  | with_reducible refine g_dn ?_
  | with_reducible refine g_dd ?_
  | with_reducible refine g_so ?_
  | with_reducible refine g_eqB ?_
  | with_reducible refine g_cp ?_
  | with_reducible refine g_yes ?_
  | ((with_reducible show r3isi [_, D.ty _] _ _); refine g_isi rfl (by simp [kinds]) ?_)
  | walk_at "l3c")
local macro_rules | `(tactic| walk_at "l3") => `(tactic| repeat walk_at "l3s")

def sp_rank_of : Sp3 := fun ds H Q => match ds with
  | [.tup [.int x, .int y]] => Q (.tup [.int y, .int x]) H
  | _ => False
theorem u_rank_of {x y : Int} {H : Hp3} {Q : VK3} (h : Q (.tup [.int y, .int x]) H) : sp_rank_of [.tup [.int x, .int y]] H Q := h
theorem key_rank : KeyOk sp_rank_of := fun _ _ _ h => h
local macro_rules | `(tactic| walk_at "l3c") => `(tactic| (with_reducible refine u_rank_of ?_))
theorem len_rank_of : ∀ (ds : List D) (H : Hp3) (Q : VK3), sp_rank_of ds H Q → ds.length = P_rank_of.length := by
  intro ds H Q h
  unfold sp_rank_of at h
  split at h
  · rfl
  · exact h.elim

def t_rank_of : TS3 := (rt3 (tp3 (cons3 (o3 r3ix (v3 0) (c3 (.int 1))) (cons3 (o3 r3ix (v3 0) (c3 (.int 0))) nil3))))
theorem rd_rank_of : ∀ (ds : List D) (H : Hp3) (Q : VK3), sp_rank_of ds H Q → t_rank_of (fin3 Q) (start3 N_rank_of ds) H := by
  intro ds H Q h
  unfold sp_rank_of at h
  split at h
  case h_2 => exact h.elim
  simp only [t_rank_of, start3, N_rank_of, List.map_cons, List.map_nil, List.length_cons, List.length_nil, Nat.reduceAdd, Nat.reduceSub, Nat.zero_add, List.replicate, List.cons_append, List.nil_append]
  walk_at "l3"
  exact g_fin h Sub3.refl

def around4 (p : Pt) : List Pt := [(p.1 + 1, p.2), (p.1, p.2 + 1), (p.1 - 1, p.2), (p.1, p.2 - 1)]
def sp_around : Sp3 := fun ds H Q => match ds with
  | [.tup [.int x, .int y]] => ∀ p, H p = none → Q (.ref p) (upd3 H p (.lst ((around4 (x, y)).map prP)))
  | _ => False
theorem u_around {x y : Int} {H : Hp3} {Q : VK3} (h : ∀ p, H p = none → Q (.ref p) (upd3 H p (.lst ((around4 (x, y)).map prP)))) : sp_around [.tup [.int x, .int y]] H Q := h
theorem len_around : ∀ (ds : List D) (H : Hp3) (Q : VK3), sp_around ds H Q → ds.length = P_around.length := by
  intro ds H Q h
  unfold sp_around at h
  split at h
  · rfl
  · exact h.elim

def t_around : TS3 := (sq3 (st3 1 (o3 r3ix (v3 0) (c3 (.int 0))))
    (sq3 (st3 2 (o3 r3ix (v3 0) (c3 (.int 1))))
    (rt3 (ls3 (cons3 (tp3 (cons3 (o3 r3add (v3 1) (c3 (.int 1))) (cons3 (v3 2) nil3))) (cons3 (tp3 (cons3 (v3 1) (cons3 (o3 r3add (v3 2) (c3 (.int 1))) nil3))) (cons3 (tp3 (cons3 (o3 i3sub (v3 1) (c3 (.int 1))) (cons3 (v3 2) nil3))) (cons3 (tp3 (cons3 (v3 1) (cons3 (o3 i3sub (v3 2) (c3 (.int 1))) nil3))) nil3))))))))
theorem rd_around : ∀ (ds : List D) (H : Hp3) (Q : VK3), sp_around ds H Q → t_around (fin3 Q) (start3 N_around ds) H := by
  intro ds H Q h
  unfold sp_around at h
  split at h
  case h_2 => exact h.elim
  rename_i x y
  simp only [t_around, start3, N_around, List.map_cons, List.map_nil, List.length_cons, List.length_nil, Nat.reduceAdd, Nat.reduceSub, Nat.zero_add, List.replicate, List.cons_append, List.nil_append]
  walk_at "l3"
  exact fun p hp => g_fin (h p hp) Sub3.refl

def rowP (x0 : Int) (n : Nat) (y : Int) : List Pt := (List.range n).map fun (i : Nat) => (x0 + (i : Int), y)
def rect (x0 : Int) (n : Nat) (y0 : Int) : Nat → List Pt
  | 0 => []
  | m + 1 => rect x0 n y0 m ++ rowP x0 n (y0 + (m : Int))
theorem rowP_succ (x0 : Int) (n : Nat) (y : Int) : rowP x0 (n + 1) y = rowP x0 n y ++ [(x0 + (n : Int), y)] := by
  unfold rowP; rw [List.range_succ, List.map_append]; rfl
theorem rowP_len (x0 : Int) (n : Nat) (y : Int) : (rowP x0 n y).length = n := by simp [rowP]
theorem rect_len (x0 : Int) (n : Nat) (y0 : Int) : ∀ m, (rect x0 n y0 m).length = m * n
  | 0 => by simp [rect]
  | m + 1 => by rw [rect, List.length_append, rect_len, rowP_len, Nat.succ_mul]
def offP (ps : List Pt) (qs : List Pt) : List Pt := qs.filter fun c => !decide (c ∈ ps)
def minX (ps : List Pt) : Int := minL (ps.map Prod.fst)
def maxX (ps : List Pt) : Int := maxL (ps.map Prod.fst)
def minY (ps : List Pt) : Int := minL (ps.map Prod.snd)
def maxY (ps : List Pt) : Int := maxL (ps.map Prod.snd)
def wid (ps : List Pt) : Nat := (maxX ps + 2 - (minX ps - 1)).toNat
def hei (ps : List Pt) : Nat := (maxY ps + 2 - (minY ps - 1)).toNat
/-- the empty cells of the box, row by row -/
def boxE (ps : List Pt) : List Pt := offP ps (rect (minX ps - 1) (wid ps) (minY ps - 1) (hei ps))
def sp_empty_in_box : Sp3 := fun ds H Q => match ds with
  | [.ref a] => (match H a with
    | some (.lst xs) => (match ptsOf xs with
      | some ps => (ps ≠ [] ∧ ps.length ≤ 900 ∧ hei ps * wid ps ≤ 900) ∧ ∀ p, H p = none → Q (.ref p) (upd3 H p (.lst ((boxE ps).map prP)))
      | none => False)
    | _ => False)
  | _ => False
theorem u_empty_in_box {ps : List Pt} {a : Addr} {H : Hp3} {Q : VK3} (ha : H a = some (.lst (ps.map prP))) (hn : ps ≠ []) (hl : ps.length ≤ 900) (hb : hei ps * wid ps ≤ 900) (h : ∀ p, H p = none → Q (.ref p) (upd3 H p (.lst ((boxE ps).map prP)))) : sp_empty_in_box [.ref a] H Q := by
  simp only [sp_empty_in_box, ha, ptsOf_map]; exact ⟨⟨hn, hl, hb⟩, h⟩
theorem len_empty_in_box : ∀ (ds : List D) (H : Hp3) (Q : VK3), sp_empty_in_box ds H Q → ds.length = P_empty_in_box.length := by
  intro ds H Q h
  unfold sp_empty_in_box at h
  split at h
  · rfl
  · exact h.elim

def lp_empty_in_box_0 : TS3 := fo3 (ir2 (o3 i3sub (cb3 r3min (cons3 (v3 1) nil3)) (c3 (.int 1))) (o3 r3add (cb3 r3max (cons3 (v3 1) nil3)) (c3 (.int 2)))) (gn3 5) (is3 (ts3 (o3 (r3inX true) (tp3 (cons3 (v3 5) (cons3 (v3 4) nil3))) (v3 0))) (dr3 (m3 r3app (v3 3) (cons3 (tp3 (cons3 (v3 5) (cons3 (v3 4) nil3))) nil3))) nx3)
def lp_empty_in_box_1 : TS3 := fo3 (ir2 (o3 i3sub (cb3 r3min (cons3 (v3 2) nil3)) (c3 (.int 1))) (o3 r3add (cb3 r3max (cons3 (v3 2) nil3)) (c3 (.int 2)))) (gn3 4) lp_empty_in_box_0
def t_empty_in_box : TS3 := (sq3 (st3 1 (cp3 (il3 (v3 0)) (gn3 0) yes3 (o3 r3ix (v3 0) (c3 (.int 0))) ["cell"] []))
    (sq3 (st3 2 (cp3 (il3 (v3 0)) (gn3 0) yes3 (o3 r3ix (v3 0) (c3 (.int 1))) ["cell"] []))
    (sq3 (st3 3 (ls3 nil3))
    (sq3 lp_empty_in_box_1
    (rt3 (v3 3))))))
theorem rd_empty_in_box : ∀ (ds : List D) (H : Hp3) (Q : VK3), sp_empty_in_box ds H Q → t_empty_in_box (fin3 Q) (start3 N_empty_in_box ds) H := by
  intro ds H Q h
  unfold sp_empty_in_box at h
  split at h
  case h_2 => exact h.elim
  rename_i a
  split at h
  case h_2 => exact h.elim
  rename_i xs ha
  split at h
  case h_2 => exact h.elim
  rename_i ps e
  have e' := ptsOf_inv e
  subst e'
  obtain ⟨⟨hn, hl, hb⟩, h⟩ := h
  simp only [t_empty_in_box, start3, N_empty_in_box, List.map_cons, List.map_nil, List.length_cons, List.length_nil, Nat.reduceAdd, Nat.reduceSub, Nat.zero_add, List.replicate, List.cons_append, List.nil_append]
  walk_at "l3"
  refine Cp.map (fun p => D.int p.1) (fun H2 hs => hs _ _ ha) (by omega) ?_ ?_
  · intro i p hp R H2 hs hR
    unfold prP
    walk_at "l3"
    exact hR H2 Sub3.refl
  intro p1 hp1
  walk_at "l3"
  refine Cp.map (fun p => D.int p.2) (fun H2 hs => hs _ _ (by walk_at "l3h")) (by omega) ?_ ?_
  · intro i p hp R H2 hs hR
    unfold prP
    walk_at "l3"
    exact hR H2 Sub3.refl
  intro p2 hp2
  walk_at "l3"
  intro p3 hp3
  walk_at "l3"
  have n3 : H p3 = none := sub_back ((Sub3.fresh hp1).trans (Sub3.fresh hp2)) hp3
  have n13 : p1 ≠ p3 := fun z => by rw [← z, upd3_old upd3_same hp2] at hp3; cases hp3
  have n23 : p2 ≠ p3 := ne3 upd3_same hp3
  have na3 : a ≠ p3 := ne3 ha n3
  have hxs : ps.map (fun p => D.int p.1) = (ps.map Prod.fst).map D.int := by rw [List.map_map]; rfl
  have hys : ps.map (fun p => D.int p.2) = (ps.map Prod.snd).map D.int := by rw [List.map_map]; rfl
  have hne1 : ps.map Prod.fst ≠ [] := by simpa using hn
  have hne2 : ps.map Prod.snd ≠ [] := by simpa using hn
  unfold lp_empty_in_box_1
  walk_at "l3"
  refine g_min (ns := ps.map Prod.snd) (by rw [upd3_old upd3_same hp3, hys]) hne2 ?_
  walk_at "l3"
  refine g_max (ns := ps.map Prod.snd) (by rw [upd3_old upd3_same hp3, hys]) hne2 ?_
  walk_at "l3"
  refine Lp.rng (fun j σ H2 => Sub3 H H2 ∧ H2 p1 = some (.lst ((ps.map Prod.fst).map D.int)) ∧ H2 p2 = some (.lst ((ps.map Prod.snd).map D.int)) ∧ H2 p3 = some (.lst ((offP ps (rect (minX ps - 1) (wid ps) (minY ps - 1) j)).map prP)) ∧ ∃ yy xx, σ = [some (.ref a), some (.ref p1), some (.ref p2), some (.ref p3), yy, xx])
    ⟨((Sub3.fresh hp1).trans (Sub3.fresh hp2)).trans (Sub3.fresh hp3), by rw [upd3_old (upd3_old upd3_same hp2) hp3, hxs], by rw [upd3_old upd3_same hp3, hys], upd3_same, _, _, rfl⟩ ?_ ?_
  · rintro j σ H2 hj ⟨hs, h1, h2, h3, yy, xx, rfl⟩
    have hrl := rect_len (minX ps - 1) (wid ps) (minY ps - 1) j
    have hj' : j < hei ps := hj
    walk_at "l3"
    unfold lp_empty_in_box_0
    walk_at "l3"
    refine g_min (ns := ps.map Prod.fst) h1 hne1 ?_
    walk_at "l3"
    refine g_max (ns := ps.map Prod.fst) h1 hne1 ?_
    walk_at "l3"
    have ew : (maxL (ps.map Prod.fst) + 2 - (minL (ps.map Prod.fst) - 1)).toNat = wid ps := rfl
    rw [ew]
    refine Lp.rng (fun i σ H3 => Sub3 H H3 ∧ H3 p1 = some (.lst ((ps.map Prod.fst).map D.int)) ∧ H3 p2 = some (.lst ((ps.map Prod.snd).map D.int)) ∧ H3 p3 = some (.lst ((offP ps (rect (minX ps - 1) (wid ps) (minY ps - 1) j ++ rowP (minX ps - 1) i (minY ps - 1 + (j : Int)))).map prP)) ∧ ∃ xx, σ = [some (.ref a), some (.ref p1), some (.ref p2), some (.ref p3), some (.int (minY ps - 1 + (j : Int))), xx])
      ⟨hs, h1, h2, by rw [show rowP (minX ps - 1) 0 (minY ps - 1 + (j : Int)) = [] from rfl, List.append_nil]; exact h3, _, rfl⟩ ?_ ?_
    · rintro i σ H3 hi ⟨hs3, k1, k2, k3, xx3, rfl⟩
      have hlen : (offP ps (rect (minX ps - 1) (wid ps) (minY ps - 1) j ++ rowP (minX ps - 1) i (minY ps - 1 + (j : Int)))).length ≤ 900 := by
        have e1 := List.length_filter_le (fun c => !decide (c ∈ ps)) (rect (minX ps - 1) (wid ps) (minY ps - 1) j ++ rowP (minX ps - 1) i (minY ps - 1 + (j : Int)))
        rw [List.length_append, hrl, rowP_len] at e1
        have e2 : (j + 1) * wid ps ≤ hei ps * wid ps := Nat.mul_le_mul_right _ hj'
        rw [Nat.succ_mul] at e2
        unfold offP
        omega
      have er : ∀ b : Bool, (offP ps (rect (minX ps - 1) (wid ps) (minY ps - 1) j ++ rowP (minX ps - 1) (i + 1) (minY ps - 1 + (j : Int)))) = offP ps (rect (minX ps - 1) (wid ps) (minY ps - 1) j ++ rowP (minX ps - 1) i (minY ps - 1 + (j : Int))) ++ (if (minX ps - 1 + (i : Int), minY ps - 1 + (j : Int)) ∈ ps then [] else [(minX ps - 1 + (i : Int), minY ps - 1 + (j : Int))]) := fun _ => by
        unfold offP
        rw [rowP_succ, ← List.append_assoc, List.filter_append]
        congr 1
        by_cases z : (minX ps - 1 + (i : Int), minY ps - 1 + (j : Int)) ∈ ps
        · rw [if_pos z, List.filter_cons_of_neg (by simpa using z)]; rfl
        · rw [if_neg z, List.filter_cons_of_pos (by simpa using z)]; rfl
      have eM : minL (ps.map Prod.fst) = minX ps := rfl
      rw [eM]
      walk_at "l3"
      refine g_ninX (seq_ref (hs3 _ _ ha)) ?_
      walk_at "l3"
      refine ifN (fun hni => ?_) fun hni => ?_
      · walk_at "l3"
        refine g_app k3 (small1000' (by rw [List.length_map]; omega)) ?_
        walk_at "l3"
        refine ⟨fun b o hb => ?_, ?_, ?_, ?_, _, rfl⟩
        · rw [upd3_ne (ne3 hb n3)]; exact hs3 b o hb
        · rw [upd3_ne n13]; exact k1
        · rw [upd3_ne n23]; exact k2
        · rw [er true, if_neg hni, upd3_same, List.map_append]; rfl
      · walk_at "l3"
        refine ⟨hs3, k1, k2, ?_, _, rfl⟩
        rw [er true, if_pos hni, List.append_nil]; exact k3
    · rintro σ H3 ⟨hs3, k1, k2, k3, xx3, rfl⟩
      walk_at "l3"
      exact ⟨hs3, k1, k2, k3, _, _, rfl⟩
  · rintro σ H2 ⟨hs, h1, h2, h3, yy, xx, rfl⟩
    walk_at "l3"
    exact g_fin (h p3 n3) (sub_upd hs h3)

def sp_l_cell_at : Sp3 := fun ds H Q => match ds with
  | [.fl xs, .int k] => (match intsOf xs with
    | some ns => 0 ≤ k ∧ Q (.int (ns.getD k.toNat 0)) H
    | none => False)
  | _ => False
theorem u_l_cell_at {ns : List Int} {k : Int} {H : Hp3} {Q : VK3} (hk : 0 ≤ k) (h : Q (.int (ns.getD k.toNat 0)) H) : sp_l_cell_at [.fl (ns.map D.int), .int k] H Q := by
  simp only [sp_l_cell_at, intsOf_map]; exact ⟨hk, h⟩
local macro_rules | `(tactic| walk_at "l3c") => `(tactic| ((with_reducible show sp_l_cell_at _ _ _); refine u_l_cell_at (by walk_at "l3a") ?_))
theorem len_l_cell_at : ∀ (ds : List D) (H : Hp3) (Q : VK3), sp_l_cell_at ds H Q → ds.length = P_l_cell_at.length := by
  intro ds H Q h
  unfold sp_l_cell_at at h
  split at h
  · rfl
  · exact h.elim

def t_l_cell_at : TS3 := (sq3 (is3 (ts3 (o3 r3lt (v3 1) (cb3 r3len (cons3 (v3 0) nil3)))) (rt3 (o3 r3ix (v3 0) (v3 1))) nx3)
    (rt3 (c3 (.int 0))))
theorem rd_l_cell_at : ∀ (ds : List D) (H : Hp3) (Q : VK3), sp_l_cell_at ds H Q → t_l_cell_at (fin3 Q) (start3 N_l_cell_at ds) H := by
  intro ds H Q h
  unfold sp_l_cell_at at h
  split at h
  case h_2 => exact h.elim
  rename_i xs k
  split at h
  case h_2 => exact h.elim
  rename_i ns e
  have e' := intsOf_inv e
  subst e'
  obtain ⟨hk, h⟩ := h
  simp only [t_l_cell_at, start3, N_l_cell_at, List.map_cons, List.map_nil, List.length_cons, List.length_nil, Nat.reduceAdd, Nat.reduceSub, Nat.zero_add, List.replicate, List.cons_append, List.nil_append]
  walk_at "l3"
  refine ifD (fun hlt => ?_) fun hlt => ?_
  · have hl : k.toNat < ns.length := by rw [List.length_map] at hlt; omega
    have ha : atI (ns.map D.int) k = some (.int (ns.getD k.toNat 0)) := by
      unfold atI ixN
      rw [if_pos hk, if_pos hlt, Option.bind_some, List.getElem?_map, List.getElem?_eq_getElem hl, List.getD_eq_getElem?_getD, List.getElem?_eq_getElem hl]
      rfl
    walk_at "l3"
    refine g_ixF ha ?_
    walk_at "l3"
    exact g_fin h Sub3.refl
  · walk_at "l3"
    have hl : ¬ k.toNat < ns.length := by rw [List.length_map] at hlt; omega
    rw [List.getD_eq_getElem?_getD, List.getElem?_eq_none (by omega)] at h
    exact g_fin h Sub3.refl

def sp_l_whole : Sp3 := fun ds H Q => match ds with
  | [.int _] => Q (.bl true) H
  | _ => False
theorem u_l_whole {i : Int} {H : Hp3} {Q : VK3} (h : Q (.bl true) H) : sp_l_whole [.int i] H Q := h
local macro_rules | `(tactic| walk_at "l3c") => `(tactic| (with_reducible refine u_l_whole ?_))
theorem len_l_whole : ∀ (ds : List D) (H : Hp3) (Q : VK3), sp_l_whole ds H Q → ds.length = P_l_whole.length := by
  intro ds H Q h
  unfold sp_l_whole at h
  split at h
  · rfl
  · exact h.elim

def t_l_whole : TS3 := (rt3 (av3 (cb3 r3isi (cons3 (v3 0) (cons3 (c3 (.ty "int")) nil3))) (nv3 (cb3 r3isi (cons3 (v3 0) (cons3 (c3 (.ty "bool")) nil3))))))
theorem rd_l_whole : ∀ (ds : List D) (H : Hp3) (Q : VK3), sp_l_whole ds H Q → t_l_whole (fin3 Q) (start3 N_l_whole ds) H := by
  intro ds H Q h
  unfold sp_l_whole at h
  split at h
  case h_2 => exact h.elim
  simp only [t_l_whole, start3, N_l_whole, List.map_cons, List.map_nil, List.length_cons, List.length_nil, Nat.reduceAdd, Nat.reduceSub, Nat.zero_add, List.replicate, List.cons_append, List.nil_append]
  walk_at "l3"
  refine ifY rfl ?_
  walk_at "l3"
  exact g_fin h Sub3.refl

def sp_l_sorted : Sp3 := fun ds H Q => match ds with
  | [.ref a] => (match H a with
    | some (.lst xs) => (match ptsOf xs with
      | some ps => ps.length ≤ 500 ∧ ∀ p, H p = none → Q (.ref p) (upd3 H p (.lst ((isort ps).map prP)))
      | none => False)
    | _ => False)
  | _ => False
theorem u_l_sorted {ps : List Pt} {a : Addr} {H : Hp3} {Q : VK3} (ha : H a = some (.lst (ps.map prP))) (hl : ps.length ≤ 500) (h : ∀ p, H p = none → Q (.ref p) (upd3 H p (.lst ((isort ps).map prP)))) : sp_l_sorted [.ref a] H Q := by
  simp only [sp_l_sorted, ha, ptsOf_map]; exact ⟨hl, h⟩
def meas (n i : Nat) (σ : St3) : Nat := match σ[i]? with
  | some (some (.int k)) => n - k.toNat
  | _ => 0
theorem len_l_sorted : ∀ (ds : List D) (H : Hp3) (Q : VK3), sp_l_sorted ds H Q → ds.length = P_l_sorted.length := by
  intro ds H Q h
  unfold sp_l_sorted at h
  split at h
  · rfl
  · exact h.elim

def lp_l_sorted_0 : TS3 := wh3 (an3 (ts3 (o3 r3lt (v3 3) (cb3 r3len (cons3 (v3 1) nil3)))) (ts3 (o3 r3lt (tp3 (cons3 (o3 r3ix (o3 r3ix (v3 1) (v3 3)) (c3 (.int 1))) (cons3 (o3 r3ix (o3 r3ix (v3 1) (v3 3)) (c3 (.int 0))) nil3))) (tp3 (cons3 (o3 r3ix (v3 2) (c3 (.int 1))) (cons3 (o3 r3ix (v3 2) (c3 (.int 0))) nil3)))))) (st3 3 (o3 r3add (v3 3) (c3 (.int 1))))
def lp_l_sorted_1 : TS3 := fo3 (il3 (v3 0)) (gn3 2) (sq3 (st3 3 (c3 (.int 0)))
    (sq3 lp_l_sorted_0
    (dr3 (m3 r3ins (v3 1) (cons3 (v3 3) (cons3 (v3 2) nil3))))))
def t_l_sorted : TS3 := (sq3 (st3 1 (ls3 nil3))
    (sq3 lp_l_sorted_1
    (rt3 (v3 1))))
theorem rd_l_sorted : ∀ (ds : List D) (H : Hp3) (Q : VK3), sp_l_sorted ds H Q → t_l_sorted (fin3 Q) (start3 N_l_sorted ds) H := by
  intro ds H Q h
  unfold sp_l_sorted at h
  split at h
  case h_2 => exact h.elim
  rename_i a
  split at h
  case h_2 => exact h.elim
  rename_i xs ha
  split at h
  case h_2 => exact h.elim
  rename_i ps e
  have e' := ptsOf_inv e
  subst e'
  obtain ⟨hl, h⟩ := h
  simp only [t_l_sorted, start3, N_l_sorted, List.map_cons, List.map_nil, List.length_cons, List.length_nil, Nat.reduceAdd, Nat.reduceSub, Nat.zero_add, List.replicate, List.cons_append, List.nil_append]
  walk_at "l3"
  intro p hp
  walk_at "l3"
  unfold lp_l_sorted_1
  walk_at "l3"
  refine Lp.by (fun i σ H2 => H2 = upd3 H p (.lst ((isort (ps.take i)).map prP)) ∧ ∃ c t, σ = [some (.ref a), some (.ref p), c, t]) ⟨rfl, _, _, rfl⟩ (fun i σ H2 _ z => by rw [z.1]; exact upd3_old ha hp) ?_ ?_
  · rintro i d σ H2 hd ⟨rfl, c0, t0, rfl⟩
    rw [List.getElem?_map] at hd
    obtain ⟨c, hc, rfl⟩ := Option.map_eq_some_iff.mp hd
    have hi : i < ps.length := (List.getElem?_eq_some_iff.mp hc).1
    rw [isort_take hc]
    have hrl : (isort (ps.take i)).length ≤ 500 := by rw [isort_len, List.length_take]; omega
    generalize isort (ps.take i) = row at hrl
    walk_at "l3"
    unfold lp_l_sorted_0
    refine g_wh (fun σ H2 => H2 = upd3 H p (.lst (row.map prP)) ∧ ∃ k : Nat, k ≤ row.length ∧ (∀ r ∈ row.take k, ltc c r = true) ∧ σ = [some (.ref a), some (.ref p), some (prP c), some (.int k)]) (fun σ _ => meas row.length 3 σ) ⟨rfl, 0, Nat.zero_le _, by simp, rfl⟩ ?_
    rintro σ H2 ⟨rfl, k, hk, hall, rfl⟩
    walk_at "l3"
    refine ifD (fun hlt => ?_) fun hlt => ?_
    · have hlt' : k < row.length := by rw [List.length_map] at hlt; omega
      have hk' : ((k : Int)).toNat < row.length := by omega
      walk_at "l3"
      refine g_ixL upd3_same (atI_map (by omega) hk') ?_
      unfold prP
      walk_at "l3"
      refine g_ixL upd3_same (atI_map (by omega) hk') ?_
      walk_at "l3"
      refine ifB (fun hc1 => ?_) fun hc1 => ?_
      · walk_at "l3"
        refine ⟨⟨rfl, k + 1, hlt', ?_, rfl⟩, ?_⟩
        · intro r hr
          rw [List.take_add_one, List.mem_append] at hr
          rcases hr with hr | hr
          · exact hall r hr
          · rw [List.getElem?_eq_getElem hlt'] at hr
            simp at hr
            subst hr
            exact hc1
        · show row.length - ((k : Int) + 1).toNat < row.length - (k : Int).toNat
          omega
      · walk_at "l3"
        refine g_ins upd3_same ⟨by omega, by rw [List.length_map]; omega⟩ (by rw [List.length_map]; omega) ?_
        walk_at "l3"
        rw [upd3_upd3]
        refine ⟨?_, _, _, rfl⟩
        obtain ⟨e1, e2⟩ := take_while_eq hk hall (fun _ => hc1)
        unfold insP
        rw [e1, e2, List.map_append, List.map_cons, List.map_take, List.map_drop]
        rfl
    · have hk' : k = row.length := by rw [List.length_map] at hlt; omega
      refine ifX rfl ?_
      walk_at "l3"
      unfold prP
      walk_at "l3"
      refine g_ins upd3_same ⟨by omega, by rw [List.length_map]; omega⟩ (by rw [List.length_map]; omega) ?_
      walk_at "l3"
      rw [upd3_upd3]
      refine ⟨?_, _, _, rfl⟩
      obtain ⟨e1, e2⟩ := take_while_eq hk hall (fun h => by omega)
      unfold insP
      rw [e1, e2, List.map_append, List.map_cons, List.map_take, List.map_drop]
      rfl
  · rintro σ H2 ⟨rfl, c, t, rfl⟩
    walk_at "l3"
    rw [List.length_map, List.take_length]
    exact g_fin (h p hp) Sub3.refl

def beside (p : Pt) : List Pt := [(p.1 + 1, p.2), (p.1, p.2 + 1), (p.1 - 1, p.2), (p.1, p.2 - 1)]
def sp_l_beside : Sp3 := fun ds H Q => match ds with
  | [.tup [.int x, .int y]] => ∀ p, H p = none → Q (.ref p) (upd3 H p (.lst ((beside (x, y)).map prP)))
  | _ => False
theorem u_l_beside {x y : Int} {H : Hp3} {Q : VK3} (h : ∀ p, H p = none → Q (.ref p) (upd3 H p (.lst ((beside (x, y)).map prP)))) : sp_l_beside [.tup [.int x, .int y]] H Q := h
theorem len_l_beside : ∀ (ds : List D) (H : Hp3) (Q : VK3), sp_l_beside ds H Q → ds.length = P_l_beside.length := by
  intro ds H Q h
  unfold sp_l_beside at h
  split at h
  · rfl
  · exact h.elim

def t_l_beside : TS3 := (rt3 (ls3 (cons3 (tp3 (cons3 (o3 r3add (o3 r3ix (v3 0) (c3 (.int 0))) (c3 (.int 1))) (cons3 (o3 r3ix (v3 0) (c3 (.int 1))) nil3))) (cons3 (tp3 (cons3 (o3 r3ix (v3 0) (c3 (.int 0))) (cons3 (o3 r3add (o3 r3ix (v3 0) (c3 (.int 1))) (c3 (.int 1))) nil3))) (cons3 (tp3 (cons3 (o3 i3sub (o3 r3ix (v3 0) (c3 (.int 0))) (c3 (.int 1))) (cons3 (o3 r3ix (v3 0) (c3 (.int 1))) nil3))) (cons3 (tp3 (cons3 (o3 r3ix (v3 0) (c3 (.int 0))) (cons3 (o3 i3sub (o3 r3ix (v3 0) (c3 (.int 1))) (c3 (.int 1))) nil3))) nil3))))))
theorem rd_l_beside : ∀ (ds : List D) (H : Hp3) (Q : VK3), sp_l_beside ds H Q → t_l_beside (fin3 Q) (start3 N_l_beside ds) H := by
  intro ds H Q h
  unfold sp_l_beside at h
  split at h
  case h_2 => exact h.elim
  rename_i x y
  simp only [t_l_beside, start3, N_l_beside, List.map_cons, List.map_nil, List.length_cons, List.length_nil, Nat.reduceAdd, Nat.reduceSub, Nat.zero_add, List.replicate, List.cons_append, List.nil_append]
  walk_at "l3"
  exact fun p hp => g_fin (h p hp) Sub3.refl

def ring (c : Pt) : List Pt := [(c.1 + 1, c.2), (c.1 + 1, c.2 + 1), (c.1, c.2 + 1), (c.1 - 1, c.2 + 1), (c.1 - 1, c.2), (c.1 - 1, c.2 - 1), (c.1, c.2 - 1), (c.1 + 1, c.2 - 1)]
/-- whether the cell of the ring, 2 i - j places on, is empty -/
def rE (ps : List Pt) (c : Pt) (i j : Nat) : Bool := !decide ((ring c).getD ((2 * i + 8 - j) % 8) (0, 0) ∈ ps)
def rn (ps : List Pt) (c : Pt) : Nat → Int
  | 0 => 0
  | i + 1 => rn ps c i + if (rE ps c i 0 && !(rE ps c i 1 && rE ps c i 2)) = true then 1 else 0
def shuts (ps : List Pt) (c : Pt) : Bool := decide (1 < rn ps c 4)
def sp_l_shuts_in : Sp3 := fun ds H Q => match ds with
  | [.ref a, .tup [.int x, .int y]] => (match H a with
    | some (.lst xs) => (match ptsOf xs with
      | some ps => Q (.bl (shuts ps (x, y))) H
      | none => False)
    | _ => False)
  | _ => False
theorem u_l_shuts_in {ps : List Pt} {a : Addr} {x y : Int} {H : Hp3} {Q : VK3} (ha : H a = some (.lst (ps.map prP))) (h : Q (.bl (shuts ps (x, y))) H) : sp_l_shuts_in [.ref a, .tup [.int x, .int y]] H Q := by
  simp only [sp_l_shuts_in, ha, ptsOf_map]; exact h
theorem ring_at {ps : List Pt} {c : Pt} {i : Nat} (hi : i < 4) : [D.int 0, .int 2, .int 4, .int 6][i]? = some (.int (2 * i)) ∧ atI ((ring c).map fun q => D.bl (!decide (q ∈ ps))) (2 * (i : Int)) = some (.bl (rE ps c i 0)) ∧
    atI ((ring c).map fun q => D.bl (!decide (q ∈ ps))) (2 * (i : Int) - 1) = some (.bl (rE ps c i 1)) ∧ atI ((ring c).map fun q => D.bl (!decide (q ∈ ps))) (2 * (i : Int) - 2) = some (.bl (rE ps c i 2)) := by
  match i, hi with
  | 0, _ => exact ⟨rfl, rfl, rfl, rfl⟩
  | 1, _ => exact ⟨rfl, rfl, rfl, rfl⟩
  | 2, _ => exact ⟨rfl, rfl, rfl, rfl⟩
  | 3, _ => exact ⟨rfl, rfl, rfl, rfl⟩
theorem len_l_shuts_in : ∀ (ds : List D) (H : Hp3) (Q : VK3), sp_l_shuts_in ds H Q → ds.length = P_l_shuts_in.length := by
  intro ds H Q h
  unfold sp_l_shuts_in at h
  split at h
  · rfl
  · exact h.elim

def lp_l_shuts_in_0 : TS3 := fo3 (il3 (ls3 (cons3 (c3 (.int 0)) (cons3 (c3 (.int 2)) (cons3 (c3 (.int 4)) (cons3 (c3 (.int 6)) nil3)))))) (gn3 7) (is3 (an3 (ts3 (o3 r3ix (v3 5) (v3 7))) (no3 (an3 (ts3 (o3 r3ix (v3 5) (o3 i3sub (v3 7) (c3 (.int 1))))) (ts3 (o3 r3ix (v3 5) (o3 i3sub (v3 7) (c3 (.int 2)))))))) (st3 6 (o3 r3add (v3 6) (c3 (.int 1)))) nx3)
def t_l_shuts_in : TS3 := (sq3 (as3 (v3 1) (g2_3 2 3))
    (sq3 (st3 4 (ls3 (cons3 (tp3 (cons3 (o3 r3add (v3 2) (c3 (.int 1))) (cons3 (v3 3) nil3))) (cons3 (tp3 (cons3 (o3 r3add (v3 2) (c3 (.int 1))) (cons3 (o3 r3add (v3 3) (c3 (.int 1))) nil3))) (cons3 (tp3 (cons3 (v3 2) (cons3 (o3 r3add (v3 3) (c3 (.int 1))) nil3))) (cons3 (tp3 (cons3 (o3 i3sub (v3 2) (c3 (.int 1))) (cons3 (o3 r3add (v3 3) (c3 (.int 1))) nil3))) nil3))))))
    (sq3 (st3 4 (o3 r3add (v3 4) (ls3 (cons3 (tp3 (cons3 (o3 i3sub (v3 2) (c3 (.int 1))) (cons3 (v3 3) nil3))) (cons3 (tp3 (cons3 (o3 i3sub (v3 2) (c3 (.int 1))) (cons3 (o3 i3sub (v3 3) (c3 (.int 1))) nil3))) (cons3 (tp3 (cons3 (v3 2) (cons3 (o3 i3sub (v3 3) (c3 (.int 1))) nil3))) (cons3 (tp3 (cons3 (o3 r3add (v3 2) (c3 (.int 1))) (cons3 (o3 i3sub (v3 3) (c3 (.int 1))) nil3))) nil3)))))))
    (sq3 (st3 5 (cp3 (il3 (v3 4)) (gn3 0) yes3 (o3 (r3inX true) (v3 0) (v3 1)) ["_law_cell"] [(0, "_law_cells")]))
    (sq3 (st3 6 (c3 (.int 0)))
    (sq3 lp_l_shuts_in_0
    (rt3 (o3 i3gt (v3 6) (c3 (.int 1))))))))))
theorem rd_l_shuts_in : ∀ (ds : List D) (H : Hp3) (Q : VK3), sp_l_shuts_in ds H Q → t_l_shuts_in (fin3 Q) (start3 N_l_shuts_in ds) H := by
  intro ds H Q h
  unfold sp_l_shuts_in at h
  split at h
  case h_2 => exact h.elim
  rename_i a x y
  split at h
  case h_2 => exact h.elim
  rename_i xs ha
  split at h
  case h_2 => exact h.elim
  rename_i ps e
  have e' := ptsOf_inv e
  subst e'
  simp only [t_l_shuts_in, start3, N_l_shuts_in, List.map_cons, List.map_nil, List.length_cons, List.length_nil, Nat.reduceAdd, Nat.reduceSub, Nat.zero_add, List.replicate, List.cons_append, List.nil_append]
  walk_at "l3"
  intro p1 hp1
  walk_at "l3"
  intro p2 hp2
  walk_at "l3"
  refine g_cat (upd3_old upd3_same hp2) upd3_same (by rw [sizeLine_n]; simp) ?_
  intro p3 hp3
  walk_at "l3"
  refine Cp.map (as := ring (x, y)) (E := prP) (fun q => D.bl (!decide (q ∈ ps))) (fun H2 hs => hs _ _ upd3_same) (by show 8 ≤ 1000; decide) ?_ ?_
  · intro i q hq R H2 hs hR
    unfold prP
    walk_at "l3"
    refine g_ninX (seq_ref (hs _ _ (upd3_old (upd3_old (upd3_old ha hp1) hp2) hp3))) ?_
    exact hR H2 Sub3.refl
  intro p4 hp4
  walk_at "l3"
  unfold lp_l_shuts_in_0
  walk_at "l3"
  intro p5 hp5
  walk_at "l3"
  refine Lp.heap (fun H5 => H5 p4 = some (.lst ((ring (x, y)).map fun q => D.bl (!decide (q ∈ ps)))) ∧ Sub3 H H5 ∧ H5 p5 = some (.lst [D.int 0, .int 2, .int 4, .int 6]))
    ⟨upd3_old upd3_same hp5, ((((Sub3.fresh hp1).trans (Sub3.fresh hp2)).trans (Sub3.fresh hp3)).trans (Sub3.fresh hp4)).trans (Sub3.fresh hp5), upd3_same⟩ ?_
  rintro H5 ⟨hE, hs, h5⟩
  refine Lp.by (fun i σ H2 => H2 = H5 ∧ ∃ k, σ = [some (.ref a), some (.tup [.int x, .int y]), some (.int x), some (.int y), some (.ref p3), some (.ref p4), some (.int (rn ps (x, y) i)), k]) ⟨rfl, _, rfl⟩ (fun i σ H2 _ z => by rw [z.1]; exact h5) ?_ ?_
  · rintro i d σ H2 hd ⟨rfl, k, rfl⟩
    have hi : i < 4 := (List.getElem?_eq_some_iff.mp hd).1
    obtain ⟨r0, r1, r2, r3⟩ := ring_at (ps := ps) (c := (x, y)) hi
    rw [r0] at hd
    cases hd
    walk_at "l3"
    refine g_ixL hE r1 ?_
    walk_at "l3"
    refine ifB (fun e1 => ?_) fun e1 => ?_
    · walk_at "l3"
      refine g_ixL hE r2 ?_
      walk_at "l3"
      refine ifB (fun e2 => ?_) fun e2 => ?_
      · walk_at "l3"
        refine g_ixL hE r3 ?_
        walk_at "l3"
        refine ifB (fun e3 => ?_) fun e3 => ?_
        · walk_at "l3"
          refine ⟨rfl, some (.int (2 * (i : Int))), ?_⟩
          have e3' : rE ps (x, y) i 2 = false := by simpa using e3
          simp only [rn, e1, e2, e3', Bool.and_false, Bool.not_false, Bool.and_true, if_true]
        · walk_at "l3"
          refine ⟨rfl, some (.int (2 * (i : Int))), ?_⟩
          have e3' : rE ps (x, y) i 2 = true := by simpa using e3
          simp only [rn, e1, e2, e3', Bool.and_true, Bool.not_true, Bool.and_false, Bool.false_eq_true, if_false, Int.add_zero]
      · walk_at "l3"
        refine ifY rfl ?_
        walk_at "l3"
        refine ⟨rfl, some (.int (2 * (i : Int))), ?_⟩
        simp only [rn, e1, e2, Bool.false_and, Bool.not_false, Bool.and_true, if_true]
    · walk_at "l3"
      refine ifX rfl ?_
      walk_at "l3"
      refine ⟨rfl, some (.int (2 * (i : Int))), ?_⟩
      simp only [rn, e1, Bool.false_and, Bool.false_eq_true, if_false, Int.add_zero]
  · rintro σ H2 ⟨rfl, k, rfl⟩
    walk_at "l3"
    exact g_fin h hs

def far (c : Int) : Int := if c % 3 = 0 then c / 3 % 19 - 9 else c / 3 * 7919 % (2 * 10 ^ 40 + 1) - 10 ^ 40
def sp_l_far : Sp3 := fun ds H Q => match ds with
  | [.int c] => Q (.int (far c)) H
  | _ => False
theorem u_l_far {c : Int} {H : Hp3} {Q : VK3} (h : Q (.int (far c)) H) : sp_l_far [.int c] H Q := h
local macro_rules | `(tactic| walk_at "l3c") => `(tactic| (with_reducible refine u_l_far ?_))
theorem len_l_far : ∀ (ds : List D) (H : Hp3) (Q : VK3), sp_l_far ds H Q → ds.length = P_l_far.length := by
  intro ds H Q h
  unfold sp_l_far at h
  split at h
  · rfl
  · exact h.elim

def t_l_far : TS3 := (sq3 (is3 (ts3 (o3 r3eq (o3 i3mod (v3 0) (c3 (.int 3))) (c3 (.int 0)))) (rt3 (o3 i3sub (o3 i3mod (o3 i3div (v3 0) (c3 (.int 3))) (c3 (.int 19))) (c3 (.int 9)))) nx3)
    (rt3 (o3 i3sub (o3 i3mod (o3 i3mul (o3 i3div (v3 0) (c3 (.int 3))) (c3 (.int 7919))) (o3 r3add (o3 i3mul (c3 (.int 2)) (o3 i3pow (c3 (.int 10)) (c3 (.int 40)))) (c3 (.int 1)))) (o3 i3pow (c3 (.int 10)) (c3 (.int 40))))))
theorem rd_l_far : ∀ (ds : List D) (H : Hp3) (Q : VK3), sp_l_far ds H Q → t_l_far (fin3 Q) (start3 N_l_far ds) H := by
  intro ds H Q h
  unfold sp_l_far at h
  split at h
  case h_2 => exact h.elim
  rename_i c
  simp only [t_l_far, start3, N_l_far, List.map_cons, List.map_nil, List.length_cons, List.length_nil, Nat.reduceAdd, Nat.reduceSub, Nat.zero_add, List.replicate, List.cons_append, List.nil_append]
  unfold far at h
  walk_at "l3"
  refine ifD (fun hc => ?_) fun hc => ?_
  · rw [if_pos hc] at h
    walk_at "l3"
    exact g_fin h Sub3.refl
  · rw [if_neg hc] at h
    walk_at "l3"
    exact g_fin h Sub3.refl

inductive Conn (S : List Pt) (s : Pt) : Pt → Prop
  | refl : Conn S s s
  | step {c n : Pt} : Conn S s c → n ∈ around4 c → n ∈ S → Conn S s n
def lenL (H : Hp3) (a : Addr) : Nat := match H a with
  | some (.lst l) => l.length
  | _ => 0
def lenD (H : Hp3) (a : Addr) : Nat := match H a with
  | some (.dic l) => l.length
  | _ => 0
/-- the search: ws wait, rs are reached; c: the one whose neighbours are looked at -/
structure Srch (ps : List Pt) (s : Pt) (ws rs : List Pt) (done : Pt → Prop) : Prop where
  nd : rs.Nodup
  sub : ∀ c ∈ rs, c = s ∨ c ∈ ps
  conn : ∀ c ∈ rs, Conn ps s c
  st : s ∈ rs
  wsub : ∀ c ∈ ws, c ∈ rs
  wl : ws.length ≤ rs.length
  cl : ∀ c ∈ rs, c ∉ ws → done c → ∀ n ∈ around4 c, n ∈ ps → n ∈ rs
theorem nodup_len : ∀ {rs qs : List Pt}, rs.Nodup → (∀ c ∈ rs, c ∈ qs) → rs.length ≤ qs.length
  | [], _, _, _ => Nat.zero_le _
  | r :: rs, qs, h, hs => by
    have h1 := List.nodup_cons.mp h
    have hr := hs r (by simp)
    have : rs.length ≤ (qs.erase r).length := nodup_len h1.2 fun c hc => by
      have hne : c ≠ r := fun z => h1.1 (z ▸ hc)
      exact (List.mem_erase_of_ne hne).mpr (hs c (by simp [hc]))
    rw [List.length_erase_of_mem hr] at this
    have := List.length_pos_of_mem hr
    rw [List.length_cons]; omega
theorem Srch.len {ps : List Pt} {s : Pt} {ws rs : List Pt} {done : Pt → Prop} (h : Srch ps s ws rs done) : rs.length ≤ ps.length + 1 := by
  have := nodup_len (qs := s :: ps) h.nd fun c hc => by
    rcases h.sub c hc with z | z
    · rw [z]; simp
    · simp [z]
  simpa using this
theorem Srch.all {ps : List Pt} {s : Pt} {rs : List Pt} (h : Srch ps s [] rs fun _ => True) (c : Pt) : c ∈ rs ↔ Conn ps s c := by
  refine ⟨h.conn c, fun k => ?_⟩
  induction k with
  | refl => exact h.st
  | step _ h1 h2 ih => exact h.cl _ ih (by simp) trivial _ h1 h2
theorem Srch.grow {ps : List Pt} {s c n : Pt} {ws rs : List Pt} {done : Pt → Prop} (h : Srch ps s ws rs done) (hc : c ∈ rs) (hn : n ∈ around4 c) (hp : n ∈ ps) (hr : n ∉ rs) : Srch ps s (ws ++ [n]) (rs ++ [n]) done := by
  refine ⟨?_, ?_, ?_, ?_, ?_, by have := h.wl; simp; omega, ?_⟩
  · rw [List.nodup_append]
    exact ⟨h.nd, by simp, fun a ha b hb => by rw [List.mem_singleton.mp hb]; exact fun z => hr (z ▸ ha)⟩
  · intro d hd
    rcases List.mem_append.mp hd with hd | hd
    · exact h.sub d hd
    · rw [List.mem_singleton.mp hd]; exact .inr hp
  · intro d hd
    rcases List.mem_append.mp hd with hd | hd
    · exact h.conn d hd
    · rw [List.mem_singleton.mp hd]; exact .step (h.conn c hc) hn hp
  · exact List.mem_append_left _ h.st
  · intro d hd
    rcases List.mem_append.mp hd with hd | hd
    · exact List.mem_append_left _ (h.wsub d hd)
    · exact List.mem_append_right _ hd
  · intro d hd hw hdn m hm hmp
    rcases List.mem_append.mp hd with hd | hd
    · exact List.mem_append_left _ (h.cl d hd (fun z => hw (List.mem_append_left _ z)) hdn m hm hmp)
    · exact absurd (List.mem_append_right _ hd) hw
def sp_reached_within : Sp3 := fun ds H Q => match ds with
  | [.ref a, .tup [.int x, .int y]] => (match H a with
    | some (.lst xs) => (match ptsOf xs with
      | some ps => ps.length ≤ 900 ∧ ∀ p rs, H p = none → (∀ c, c ∈ rs ↔ Conn ps (x, y) c) → Q (.ref p) (upd3 H p (.dic (tabP rs)))
      | none => False)
    | _ => False)
  | _ => False
theorem u_reached_within {ps : List Pt} {a : Addr} {x y : Int} {H : Hp3} {Q : VK3} (ha : H a = some (.lst (ps.map prP))) (hl : ps.length ≤ 900) (h : ∀ p rs, H p = none → (∀ c, c ∈ rs ↔ Conn ps (x, y) c) → Q (.ref p) (upd3 H p (.dic (tabP rs)))) : sp_reached_within [.ref a, .tup [.int x, .int y]] H Q := by
  simp only [sp_reached_within, ha, ptsOf_map]; exact ⟨hl, h⟩
theorem len_reached_within : ∀ (ds : List D) (H : Hp3) (Q : VK3), sp_reached_within ds H Q → ds.length = P_reached_within.length := by
  intro ds H Q h
  unfold sp_reached_within at h
  split at h
  · rfl
  · exact h.elim

def lp_reached_within_0 : TS3 := fo3 (il3 (cb3 sp_around (cons3 (v3 5) nil3))) (gn3 6) (is3 (an3 (ts3 (o3 (r3inX false) (v3 6) (v3 2))) (ts3 (o3 (r3inX true) (v3 6) (v3 3)))) (sq3 (dp3 (v3 3) (v3 6) (c3 (.bl true)))
    (dr3 (m3 r3app (v3 4) (cons3 (v3 6) nil3)))) nx3)
def lp_reached_within_1 : TS3 := wh3 (ts3 (o3 i3gt (cb3 r3len (cons3 (v3 4) nil3)) (c3 (.int 0)))) (sq3 (st3 5 (m3 r3pop (v3 4) nil3))
    lp_reached_within_0)
def t_reached_within : TS3 := (sq3 (st3 2 (cb3 r3dict (cons3 (cp3 (il3 (v3 0)) (gn3 0) yes3 (tp3 (cons3 (v3 0) (cons3 (c3 (.bl true)) nil3))) ["cell"] []) nil3)))
    (sq3 (st3 3 (dd3 (v3 1) (c3 (.bl true))))
    (sq3 (st3 4 (ls3 (cons3 (v3 1) nil3)))
    (sq3 lp_reached_within_1
    (rt3 (v3 3))))))
theorem rd_reached_within : ∀ (ds : List D) (H : Hp3) (Q : VK3), sp_reached_within ds H Q → t_reached_within (fin3 Q) (start3 N_reached_within ds) H := by
  intro ds H Q h
  unfold sp_reached_within at h
  split at h
  case h_2 => exact h.elim
  rename_i a x y
  split at h
  case h_2 => exact h.elim
  rename_i xs ha
  split at h
  case h_2 => exact h.elim
  rename_i ps e
  have e' := ptsOf_inv e
  subst e'
  obtain ⟨hl, h⟩ := h
  simp only [t_reached_within, start3, N_reached_within, List.map_cons, List.map_nil, List.length_cons, List.length_nil, Nat.reduceAdd, Nat.reduceSub, Nat.zero_add, List.replicate, List.cons_append, List.nil_append]
  walk_at "l3"
  refine Cp.map (fun c => D.tup [prP c, .bl true]) (fun H2 hs => hs _ _ ha) (by omega) ?_ ?_
  · intro i c hc R H2 hs hR
    unfold prP
    walk_at "l3"
    exact hR H2 Sub3.refl
  intro p1 hp1
  walk_at "l3"
  refine g_dict (ps := ps) upd3_same (by omega) fun p2 hp2 => ?_
  have hfl := addNs_len ps []
  have hfm : ∀ c, c ∈ ps.foldl addN [] ↔ c ∈ ps := fun c => by rw [mem_addNs]; simp
  generalize ps.foldl addN [] = fs at hfl hfm
  walk_at "l3"
  intro p3 hp3
  walk_at "l3"
  refine g_ddk upd3_same ?_
  rw [upd3_upd3]
  walk_at "l3"
  intro p4 hp4
  walk_at "l3"
  have n23 : p2 ≠ p3 := ne3 upd3_same hp3
  have n34 : p3 ≠ p4 := ne3 upd3_same hp4
  have n24 : p2 ≠ p4 := fun z => by rw [← z, upd3_old upd3_same hp3] at hp4; cases hp4
  have n2 : H p3 = none := sub_back ((Sub3.fresh hp1).trans (Sub3.fresh hp2)) hp3
  have n3 : H p4 = none := sub_back (((Sub3.fresh hp1).trans (Sub3.fresh hp2)).trans (Sub3.fresh hp3)) hp4
  unfold lp_reached_within_1
  refine g_wh (fun σ H2 => ∃ ws rs cd nr, Sub3 H H2 ∧ H2 p2 = some (.dic (tabP fs)) ∧ H2 p3 = some (.dic (tabP rs)) ∧ H2 p4 = some (.lst (ws.map prP)) ∧ σ = [some (.ref a), some (.tup [.int x, .int y]), some (.ref p2), some (.ref p3), some (.ref p4), cd, nr] ∧ Srch ps (x, y) ws rs fun _ => True)
    (fun σ H2 => lenL H2 p4 + 2 * (ps.length + 1 - lenD H2 p3))
    ⟨[(x, y)], [(x, y)], none, none, (((Sub3.fresh hp1).trans (Sub3.fresh hp2)).trans (Sub3.fresh hp3)).trans (Sub3.fresh hp4), by walk_at "l3h", by walk_at "l3h", upd3_same, rfl,
      ⟨by simp, by simp, fun c hc => by rw [List.mem_singleton.mp hc]; exact .refl, by simp, by simp, by simp, fun c hc hw => absurd hc hw⟩⟩ ?_
  rintro σ H2 ⟨ws, rs, cd, nr, hs, h2, h3, h4, rfl, S⟩
  walk_at "l3"
  refine ifD (fun hpos => ?_) fun hpos => ?_
  · rw [List.length_map] at hpos
    obtain ⟨wi, c, rfl⟩ : ∃ wi c, ws = wi ++ [c] := by
      have hn : ws ≠ [] := by intro z; rw [z] at hpos; simp at hpos
      exact ⟨ws.dropLast, ws.getLast hn, (List.dropLast_concat_getLast hn).symm⟩
    have hμ : lenL H2 p4 + 2 * (ps.length + 1 - lenD H2 p3) = wi.length + 1 + 2 * (ps.length + 1 - rs.length) := by
      unfold lenL lenD tabP at *
      rw [h4, h3]; simp
    rw [hμ]
    have hcr : c ∈ rs := S.wsub c (by simp)
    walk_at "l3"
    refine g_pop h4 (y := prP c) (by simp) ?_
    rw [show ((wi ++ [c]).map prP).dropLast = wi.map prP by simp]
    unfold prP
    walk_at "l3"
    unfold lp_reached_within_0
    walk_at "l3"
    refine u_around fun p5 hp5 => ?_
    have n45 : H2 p5 = none := by
      by_cases z : p5 = p4
      · rw [z, upd3_same] at hp5; cases hp5
      · rw [upd3_ne z] at hp5; exact hp5
    have S0 : Srch ps (x, y) wi rs fun d => d ≠ c := ⟨S.nd, S.sub, S.conn, S.st, fun d hd => S.wsub d (by simp [hd]), by have := S.wl; simp at this; omega, fun d hd hw hne => S.cl d hd (fun z => by rcases List.mem_append.mp z with z | z; exact hw z; exact hne (List.mem_singleton.mp z)) trivial⟩
    have hs0 : Sub3 H (upd3 (upd3 H2 p4 (.lst (wi.map prP))) p5 (.lst ((around4 c).map prP))) := fun b o hb => upd3_old (by rw [upd3_ne (ne3 hb n3)]; exact hs b o hb) hp5
    have q2 : (upd3 H2 p4 (.lst (wi.map prP))) p2 = some (.dic (tabP fs)) := by rw [upd3_ne n24]; exact h2
    have q3 : (upd3 H2 p4 (.lst (wi.map prP))) p3 = some (.dic (tabP rs)) := by rw [upd3_ne n34]; exact h3
    walk_at "l3"
    refine Lp.by (fun j σ H3 => ∃ ws2 rs2 nr, Sub3 H H3 ∧ H3 p2 = some (.dic (tabP fs)) ∧ H3 p3 = some (.dic (tabP rs2)) ∧ H3 p4 = some (.lst (ws2.map prP)) ∧ H3 p5 = some (.lst ((around4 c).map prP)) ∧ σ = [some (.ref a), some (.tup [.int x, .int y]), some (.ref p2), some (.ref p3), some (.ref p4), some (.tup [.int c.1, .int c.2]), nr] ∧
        (Srch ps (x, y) ws2 rs2 fun d => d ≠ c) ∧ c ∈ rs2 ∧ ws2.length + 2 * (ps.length + 1 - rs2.length) ≤ wi.length + 2 * (ps.length + 1 - rs.length) ∧ ∀ n ∈ (around4 c).take j, n ∈ ps → n ∈ rs2)
      ⟨wi, rs, nr, hs0, upd3_old q2 hp5, upd3_old q3 hp5, upd3_old upd3_same hp5, upd3_same, rfl, S0, hcr, Nat.le_refl _, by simp⟩ (fun j σ H3 _ z => by obtain ⟨_, _, _, _, _, _, _, z, _⟩ := z; exact z) ?_ ?_
    · rintro j d σ H3 hd ⟨ws2, rs2, nr2, hs3, k2, k3, k4, k5, rfl, S2, hc2, hm2, ht2⟩
      rw [List.getElem?_map] at hd
      obtain ⟨n, hn, rfl⟩ := Option.map_eq_some_iff.mp hd
      have hna : n ∈ around4 c := List.mem_of_getElem? hn
      have n35 : p3 ≠ p5 := fun z => by rw [z, k5] at k3; cases k3
      have n25 : p2 ≠ p5 := fun z => by rw [z, k5] at k2; cases k2
      have n45' : p4 ≠ p5 := fun z => by rw [z, upd3_same] at hp5; cases hp5
      have fin : ∀ rs3 : List Pt, (∀ m ∈ rs2, m ∈ rs3) → (n ∈ ps → n ∈ rs3) → ∀ m ∈ (around4 c).take (j + 1), m ∈ ps → m ∈ rs3 := fun rs3 h1 h2 m hm hp => by
        rw [List.take_add_one, hn, List.mem_append] at hm
        rcases hm with hm | hm
        · exact h1 m (ht2 m hm hp)
        · have : m = n := by simpa using hm
          rw [this] at hp ⊢; exact h2 hp
      unfold prP
      walk_at "l3"
      refine g_inD k2 ?_
      walk_at "l3"
      refine ifD (fun hf => ?_) fun hf => ?_
      · have hnp : n ∈ ps := (hfm n).mp hf
        walk_at "l3"
        refine g_ninD k3 ?_
        walk_at "l3"
        refine ifN (fun hnr => ?_) fun hnr => ?_
        · have hlen := S2.len
          have G := S2.grow hc2 hna hnp hnr
          have hlen3 := G.len
          walk_at "l3"
          refine g_dpk k3 (by omega) ?_
          have ea : addN rs2 (n.1, n.2) = rs2 ++ [n] := by unfold addN; exact if_neg hnr
          rw [ea]
          walk_at "l3"
          refine g_mtk (ds := ws2.map prP) (by rw [upd3_ne (Ne.symm n34)]; exact k4) ?_
          walk_at "l3"
          have hwl := S2.wl
          refine g_app (ds := ws2.map prP) (by rw [upd3_ne (Ne.symm n34)]; exact k4) (by rw [sizeLine_n, List.length_map]; omega) ?_
          walk_at "l3"
          refine ⟨ws2 ++ [n], rs2 ++ [n], _, fun b o hb => ?_, ?_, ?_, ?_, ?_, rfl, G, List.mem_append_left _ hc2, ?_, fin _ (fun m hm => List.mem_append_left _ hm) (fun _ => by simp)⟩
          · rw [upd3_ne (ne3 hb n3), upd3_ne (ne3 hb n2)]; exact hs3 b o hb
          · rw [upd3_ne n24, upd3_ne n23]; exact k2
          · rw [upd3_ne n34, upd3_same]
          · rw [upd3_same, List.map_append]; rfl
          · rw [upd3_ne (Ne.symm n45'), upd3_ne (Ne.symm n35)]; exact k5
          · rw [List.length_append, List.length_append, List.length_singleton] at *
            omega
        · walk_at "l3"
          exact ⟨ws2, rs2, _, hs3, k2, k3, k4, k5, rfl, S2, hc2, hm2, fin _ (fun m hm => hm) (fun _ => hnr)⟩
      · refine ifX rfl ?_
        walk_at "l3"
        exact ⟨ws2, rs2, _, hs3, k2, k3, k4, k5, rfl, S2, hc2, hm2, fin _ (fun m hm => hm) (fun z => absurd ((hfm n).mpr z) hf)⟩
    · rintro σ H3 ⟨ws2, rs2, nr2, hs3, k2, k3, k4, k5, rfl, S2, hc2, hm2, ht2⟩
      rw [List.length_map, List.take_length] at ht2
      walk_at "l3"
      refine ⟨⟨ws2, rs2, _, _, hs3, k2, k3, k4, rfl, S2.nd, S2.sub, S2.conn, S2.st, S2.wsub, S2.wl, fun d hd hw _ => ?_⟩, ?_⟩
      · by_cases hdc : d = c
        · rw [hdc]; exact ht2
        · exact S2.cl d hd hw hdc
      · have : lenL H3 p4 + 2 * (ps.length + 1 - lenD H3 p3) = ws2.length + 2 * (ps.length + 1 - rs2.length) := by
          unfold lenL lenD tabP at *
          rw [k4, k3]; simp
        rw [this]; omega
  · have hw : ws = [] := List.eq_nil_of_length_eq_zero (by rw [List.length_map] at hpos; omega)
    subst hw
    walk_at "l3"
    exact g_fin (h p3 rs n2 fun c => S.all c) (sub_upd hs h3)

def mix (ns : List Int) (k : Int) : Int := (ns.getD k.toNat 0 + 7 * k * k + 11) * 48271 % 2147483647 * 69621 % 1000000007
def sp_l_mix : Sp3 := fun ds H Q => match ds with
  | [.fl xs, .int k] => (match intsOf xs with
    | some ns => (0 ≤ k ∧ k ≤ 1000) ∧ Q (.int (mix ns k)) H
    | none => False)
  | _ => False
theorem u_l_mix {ns : List Int} {k : Int} {H : Hp3} {Q : VK3} (hk : 0 ≤ k) (h1 : k ≤ 1000) (h : Q (.int (mix ns k)) H) : sp_l_mix [.fl (ns.map D.int), .int k] H Q := by
  simp only [sp_l_mix, intsOf_map]; exact ⟨⟨hk, h1⟩, h⟩
theorem len_l_mix : ∀ (ds : List D) (H : Hp3) (Q : VK3), sp_l_mix ds H Q → ds.length = P_l_mix.length := by
  intro ds H Q h
  unfold sp_l_mix at h
  split at h
  · rfl
  · exact h.elim

def t_l_mix : TS3 := (rt3 (o3 i3mod (o3 i3mul (o3 i3mod (o3 i3mul (o3 r3add (o3 r3add (cb3 sp_l_cell_at (cons3 (v3 0) (cons3 (v3 1) nil3))) (o3 i3mul (o3 i3mul (c3 (.int 7)) (v3 1)) (v3 1))) (c3 (.int 11))) (c3 (.int 48271))) (c3 (.int 2147483647))) (c3 (.int 69621))) (c3 (.int 1000000007))))
theorem rd_l_mix : ∀ (ds : List D) (H : Hp3) (Q : VK3), sp_l_mix ds H Q → t_l_mix (fin3 Q) (start3 N_l_mix ds) H := by
  intro ds H Q h
  unfold sp_l_mix at h
  split at h
  case h_2 => exact h.elim
  rename_i xs k
  split at h
  case h_2 => exact h.elim
  rename_i ns e
  have e' := intsOf_inv e
  subst e'
  obtain ⟨⟨hk, hk1⟩, h⟩ := h
  simp only [t_l_mix, start3, N_l_mix, List.map_cons, List.map_nil, List.length_cons, List.length_nil, Nat.reduceAdd, Nat.reduceSub, Nat.zero_add, List.replicate, List.cons_append, List.nil_append]
  walk_at "l3"
  exact g_fin h Sub3.refl

def sp_l_is_pair : Sp3 := fun ds H Q => match ds with
  | [.tup [.int _, .int _]] => Q (.bl true) H
  | _ => False
theorem u_l_is_pair {i j : Int} {H : Hp3} {Q : VK3} (h : Q (.bl true) H) : sp_l_is_pair [.tup [.int i, .int j]] H Q := h
local macro_rules | `(tactic| walk_at "l3c") => `(tactic| (with_reducible refine u_l_is_pair ?_))
theorem len_l_is_pair : ∀ (ds : List D) (H : Hp3) (Q : VK3), sp_l_is_pair ds H Q → ds.length = P_l_is_pair.length := by
  intro ds H Q h
  unfold sp_l_is_pair at h
  split at h
  · rfl
  · exact h.elim

def t_l_is_pair : TS3 := (rt3 (av3 (cb3 r3isi (cons3 (v3 0) (cons3 (c3 (.ty "tuple")) nil3))) (av3 (o3 r3eq (cb3 r3len (cons3 (v3 0) nil3)) (c3 (.int 2))) (av3 (cb3 sp_l_whole (cons3 (o3 r3ix (v3 0) (c3 (.int 0))) nil3)) (cb3 sp_l_whole (cons3 (o3 r3ix (v3 0) (c3 (.int 1))) nil3))))))
theorem rd_l_is_pair : ∀ (ds : List D) (H : Hp3) (Q : VK3), sp_l_is_pair ds H Q → t_l_is_pair (fin3 Q) (start3 N_l_is_pair ds) H := by
  intro ds H Q h
  unfold sp_l_is_pair at h
  split at h
  case h_2 => exact h.elim
  simp only [t_l_is_pair, start3, N_l_is_pair, List.map_cons, List.map_nil, List.length_cons, List.length_nil, Nat.reduceAdd, Nat.reduceSub, Nat.zero_add, List.replicate, List.cons_append, List.nil_append]
  walk_at "l3"
  refine ifY rfl ?_
  walk_at "l3"
  refine ifY rfl ?_
  walk_at "l3"
  refine ifY rfl ?_
  walk_at "l3"
  exact g_fin h Sub3.refl

open Classical in
noncomputable def cutOff (ps : List Pt) : Option Pt := ps.find? fun c => decide (¬ Conn ps (ps.headD (0, 0)) c)
theorem cutOff_some {ps : List Pt} {i : Nat} {c : Pt} (hc : ps[i]? = some c) (h : ∀ d ∈ ps.take i, Conn ps (ps.headD (0, 0)) d) (hn : ¬ Conn ps (ps.headD (0, 0)) c) : cutOff ps = some c := by
  classical
  have hi : i < ps.length := (List.getElem?_eq_some_iff.mp hc).1
  have e : ps = ps.take i ++ c :: ps.drop (i + 1) := by
    have e1 : ps.drop i = c :: ps.drop (i + 1) := by
      rw [List.drop_eq_getElem_cons hi]
      rw [List.getElem?_eq_getElem hi] at hc
      cases hc; rfl
    rw [← e1, List.take_append_drop]
  unfold cutOff
  rw [List.find?_eq_some_iff_append]
  exact ⟨decide_eq_true hn, ps.take i, ps.drop (i + 1), e, fun d hd => by simpa using h d hd⟩
theorem cutOff_none {ps : List Pt} (h : ∀ d ∈ ps, Conn ps (ps.headD (0, 0)) d) : cutOff ps = none := by
  classical
  unfold cutOff
  rw [List.find?_eq_none]
  intro d hd
  simpa using h d hd
def optD : Option Pt → D
  | some c => .tup [.int c.1, .int c.2]
  | none => .non
noncomputable def sp_first_cut_off : Sp3 := fun ds H Q => match ds with
  | [.ref a] => (match H a with
    | some (.lst xs) => (match ptsOf xs with
      | some ps => (ps ≠ [] ∧ ps.length ≤ 900) ∧ Q (optD (cutOff ps)) H
      | none => False)
    | _ => False)
  | _ => False
theorem u_first_cut_off {ps : List Pt} {a : Addr} {H : Hp3} {Q : VK3} (ha : H a = some (.lst (ps.map prP))) (hn : ps ≠ []) (hl : ps.length ≤ 900) (h : Q (optD (cutOff ps)) H) : sp_first_cut_off [.ref a] H Q := by
  simp only [sp_first_cut_off, ha, ptsOf_map]; exact ⟨⟨hn, hl⟩, h⟩
theorem len_first_cut_off : ∀ (ds : List D) (H : Hp3) (Q : VK3), sp_first_cut_off ds H Q → ds.length = P_first_cut_off.length := by
  intro ds H Q h
  unfold sp_first_cut_off at h
  split at h
  · rfl
  · exact h.elim

def lp_first_cut_off_0 : TS3 := fo3 (il3 (v3 0)) (gn3 2) (is3 (ts3 (o3 (r3inX true) (v3 2) (v3 1))) (rt3 (v3 2)) nx3)
def t_first_cut_off : TS3 := (sq3 (st3 1 (cb3 sp_reached_within (cons3 (v3 0) (cons3 (o3 r3ix (v3 0) (c3 (.int 0))) nil3))))
    (sq3 lp_first_cut_off_0
    (rt3 (c3 .non))))
theorem rd_first_cut_off : ∀ (ds : List D) (H : Hp3) (Q : VK3), sp_first_cut_off ds H Q → t_first_cut_off (fin3 Q) (start3 N_first_cut_off ds) H := by
  intro ds H Q h
  unfold sp_first_cut_off at h
  split at h
  case h_2 => exact h.elim
  rename_i a
  split at h
  case h_2 => exact h.elim
  rename_i xs ha
  split at h
  case h_2 => exact h.elim
  rename_i ps e
  have e' := ptsOf_inv e
  subst e'
  obtain ⟨⟨hn, hl⟩, h⟩ := h
  have h0 : (0 : Int).toNat < ps.length := List.length_pos_iff.mpr hn
  have hh : ps[(0 : Int).toNat]'h0 = ps.headD (0, 0) := by
    cases ps with
    | nil => exact absurd rfl hn
    | cons p ps => rfl
  simp only [t_first_cut_off, start3, N_first_cut_off, List.map_cons, List.map_nil, List.length_cons, List.length_nil, Nat.reduceAdd, Nat.reduceSub, Nat.zero_add, List.replicate, List.cons_append, List.nil_append]
  walk_at "l3"
  refine g_ixL ha (atI_map (by decide) h0) ?_
  rw [hh]
  unfold prP
  walk_at "l3"
  refine u_reached_within ha hl fun p1 rs hp1 hrs => ?_
  walk_at "l3"
  unfold lp_first_cut_off_0
  walk_at "l3"
  refine Lp.by (fun i σ H2 => H2 = upd3 H p1 (.dic (tabP rs)) ∧ (∃ c, σ = [some (.ref a), some (.ref p1), c]) ∧ ∀ d ∈ ps.take i, Conn ps (ps.headD (0, 0)) d) ⟨rfl, ⟨_, rfl⟩, by simp⟩ (fun i σ H2 _ z => by rw [z.1]; exact upd3_old ha hp1) ?_ ?_
  · rintro i d σ H2 hd ⟨rfl, ⟨c0, rfl⟩, hall⟩
    rw [List.getElem?_map] at hd
    obtain ⟨c, hc, rfl⟩ := Option.map_eq_some_iff.mp hd
    unfold prP
    walk_at "l3"
    refine g_ninD upd3_same ?_
    walk_at "l3"
    refine ifN (fun hnr => ?_) fun hnr => ?_
    · walk_at "l3"
      have hn' : ¬ Conn ps (ps.headD (0, 0)) c := fun z => hnr ((hrs c).mpr z)
      rw [cutOff_some hc hall hn'] at h
      exact g_fin h (Sub3.fresh hp1)
    · walk_at "l3"
      refine ⟨rfl, ⟨_, rfl⟩, fun d hd => ?_⟩
      rw [List.take_add_one, hc, List.mem_append] at hd
      rcases hd with hd | hd
      · exact hall d hd
      · have : d = c := by simpa using hd
        rw [this]; exact (hrs c).mp hnr
  · rintro σ H2 ⟨rfl, ⟨c0, rfl⟩, hall⟩
    rw [List.length_map, List.take_length] at hall
    walk_at "l3"
    rw [cutOff_none hall] at h
    exact g_fin h (Sub3.fresh hp1)

def sp_l_is_piece : Sp3 := fun ds H Q => match ds with
  | [.tup xs, y] => seqH H y = some xs ∧ (∃ ps : List Pt, xs = ps.map prP ∧ ps.length ≤ 1000) ∧ Q (.bl true) H
  | _ => False
theorem u_l_is_piece {ps : List Pt} {y : D} {H : Hp3} {Q : VK3} (hy : seqH H y = some (ps.map prP)) (hl : ps.length ≤ 1000) (h : Q (.bl true) H) : sp_l_is_piece [.tup (ps.map prP), y] H Q := ⟨hy, ⟨ps, rfl, hl⟩, h⟩
theorem len_l_is_piece : ∀ (ds : List D) (H : Hp3) (Q : VK3), sp_l_is_piece ds H Q → ds.length = P_l_is_piece.length := by
  intro ds H Q h
  unfold sp_l_is_piece at h
  split at h
  · rfl
  · exact h.elim

def lp_l_is_piece_0 : TS3 := fo3 (ir1 (cb3 r3len (cons3 (v3 1) nil3))) (gn3 2) (is3 (or3 (no3 (ts3 (cb3 sp_l_is_pair (cons3 (o3 r3ix (v3 0) (v3 2)) nil3)))) (ts3 (o3 r3ne (o3 r3ix (v3 0) (v3 2)) (o3 r3ix (v3 1) (v3 2))))) (rt3 (c3 (.bl false))) nx3)
def t_l_is_piece : TS3 := (sq3 (is3 (or3 (no3 (ts3 (cb3 r3isi (cons3 (v3 0) (cons3 (c3 (.ty "tuple")) nil3))))) (ts3 (o3 r3ne (cb3 r3len (cons3 (v3 0) nil3)) (cb3 r3len (cons3 (v3 1) nil3))))) (rt3 (c3 (.bl false))) nx3)
    (sq3 lp_l_is_piece_0
    (rt3 (c3 (.bl true)))))
theorem rd_l_is_piece : ∀ (ds : List D) (H : Hp3) (Q : VK3), sp_l_is_piece ds H Q → t_l_is_piece (fin3 Q) (start3 N_l_is_piece ds) H := by
  intro ds H Q h
  unfold sp_l_is_piece at h
  split at h
  case h_2 => exact h.elim
  rename_i xs y
  obtain ⟨hy, ⟨ps, rfl, hl⟩, h⟩ := h
  simp only [t_l_is_piece, start3, N_l_is_piece, List.map_cons, List.map_nil, List.length_cons, List.length_nil, Nat.reduceAdd, Nat.reduceSub, Nat.zero_add, List.replicate, List.cons_append, List.nil_append]
  walk_at "l3"
  refine ifX rfl ?_
  walk_at "l3"
  refine g_lenS hy ?_
  walk_at "l3"
  refine ifN (fun z => absurd rfl z) fun _ => ?_
  walk_at "l3"
  unfold lp_l_is_piece_0
  walk_at "l3"
  refine g_lenS hy ?_
  have el : (((ps.map prP).length : Nat) : Int) = ps.length := by rw [List.length_map]
  rw [el]
  refine g_rg1 ?_
  refine Lp.rng (fun i σ H2 => H2 = H ∧ ∃ k, σ = [some (.tup (ps.map prP)), some y, k]) ⟨rfl, _, rfl⟩ ?_ ?_
  · rintro i σ H2 hi ⟨rfl, k, rfl⟩
    have hi' : ((0 : Int) + (i : Int)).toNat < ps.length := by simp only [Int.toNat_natCast] at hi; omega
    walk_at "l3"
    refine g_ixT (atI_map (by omega) hi') ?_
    unfold prP
    walk_at "l3"
    refine ifX rfl ?_
    walk_at "l3"
    refine g_ixT (atI_map (by omega) hi') ?_
    walk_at "l3"
    refine g_ixS hy (atI_map (by omega) hi') ?_
    unfold prP
    walk_at "l3"
    refine ifN (fun z => absurd rfl z) fun _ => ?_
    walk_at "l3"
    exact ⟨rfl, _, rfl⟩
  · rintro σ H2 ⟨rfl, k, rfl⟩
    walk_at "l3"
    exact g_fin h Sub3.refl

def gstep (ps : List Pt) (many : Int) (i j : Nat) : List Pt :=
  if (ps.length : Int) < many ∧ (beside (ps.getD i (0, 0))).getD j (0, 0) ∉ ps ∧ shuts ps ((beside (ps.getD i (0, 0))).getD j (0, 0)) = false then ps ++ [(beside (ps.getD i (0, 0))).getD j (0, 0)] else ps
def gr (ns : List Int) (at0 many : Int) : Nat → List Pt
  | 0 => [(0, 0)]
  | k + 1 => gstep (gr ns at0 many k) many (mix ns (at0 + (k : Int)) % ((gr ns at0 many k).length : Int)).toNat ((mix ns (at0 + (k : Int)) / 720) % 4).toNat
def grown (ns : List Int) (at0 many : Int) : List Pt := gr ns at0 many (3 * many).toNat
theorem gstep_len (ps : List Pt) (many : Int) (i j : Nat) : ps.length ≤ (gstep ps many i j).length := by
  unfold gstep; split
  · rw [List.length_append]; omega
  · exact Nat.le_refl _
theorem gstep_most {ps : List Pt} {many : Int} {i j : Nat} (h : (ps.length : Int) ≤ max many 1) : ((gstep ps many i j).length : Int) ≤ max many 1 := by
  unfold gstep; split
  · rename_i c; rw [List.length_append]; have := c.1; simp; omega
  · exact h
theorem gr_pos (ns : List Int) (at0 many : Int) : ∀ k, 1 ≤ (gr ns at0 many k).length
  | 0 => Nat.le_refl _
  | k + 1 => Nat.le_trans (gr_pos ns at0 many k) (gstep_len _ _ _ _)
theorem gr_most (ns : List Int) (at0 many : Int) : ∀ k, ((gr ns at0 many k).length : Int) ≤ max many 1
  | 0 => by show ((1 : Nat) : Int) ≤ _; omega
  | k + 1 => gstep_most (gr_most ns at0 many k)
def sp_l_grown : Sp3 := fun ds H Q => match ds with
  | [.fl xs, .int at0, .int many] => (match intsOf xs with
    | some ns => ((0 ≤ at0 ∧ at0 ≤ 500) ∧ 0 ≤ many ∧ many ≤ 20) ∧ ∀ p, H p = none → Q (.ref p) (upd3 H p (.lst ((grown ns at0 many).map prP)))
    | none => False)
  | _ => False
theorem u_l_grown {ns : List Int} {at0 many : Int} {H : Hp3} {Q : VK3} (h1 : 0 ≤ at0 ∧ at0 ≤ 500) (h2 : 0 ≤ many ∧ many ≤ 20) (h : ∀ p, H p = none → Q (.ref p) (upd3 H p (.lst ((grown ns at0 many).map prP)))) : sp_l_grown [.fl (ns.map D.int), .int at0, .int many] H Q := by
  simp only [sp_l_grown, intsOf_map]; exact ⟨⟨h1, h2⟩, h⟩
theorem len_l_grown : ∀ (ds : List D) (H : Hp3) (Q : VK3), sp_l_grown ds H Q → ds.length = P_l_grown.length := by
  intro ds H Q h
  unfold sp_l_grown at h
  split at h
  · rfl
  · exact h.elim

def lp_l_grown_0 : TS3 := fo3 (ir1 (o3 i3mul (c3 (.int 3)) (v3 2))) (gn3 4) (sq3 (st3 5 (cb3 sp_l_mix (cons3 (v3 0) (cons3 (o3 r3add (v3 1) (v3 4)) nil3))))
    (sq3 (st3 6 (o3 r3ix (cb3 sp_l_beside (cons3 (o3 r3ix (v3 3) (o3 i3mod (v3 5) (cb3 r3len (cons3 (v3 3) nil3)))) nil3)) (o3 i3mod (o3 i3div (v3 5) (c3 (.int 720))) (c3 (.int 4)))))
    (is3 (an3 (ts3 (o3 r3lt (cb3 r3len (cons3 (v3 3) nil3)) (v3 2))) (an3 (ts3 (o3 (r3inX true) (v3 6) (v3 3))) (no3 (ts3 (cb3 sp_l_shuts_in (cons3 (v3 3) (cons3 (v3 6) nil3))))))) (dr3 (m3 r3app (v3 3) (cons3 (v3 6) nil3))) nx3)))
def t_l_grown : TS3 := (sq3 (st3 3 (ls3 (cons3 (tp3 (cons3 (c3 (.int 0)) (cons3 (c3 (.int 0)) nil3))) nil3)))
    (sq3 lp_l_grown_0
    (rt3 (v3 3))))
theorem rd_l_grown : ∀ (ds : List D) (H : Hp3) (Q : VK3), sp_l_grown ds H Q → t_l_grown (fin3 Q) (start3 N_l_grown ds) H := by
  intro ds H Q h
  unfold sp_l_grown at h
  split at h
  case h_2 => exact h.elim
  rename_i xs at0 many
  split at h
  case h_2 => exact h.elim
  rename_i ns e
  have e' := intsOf_inv e
  subst e'
  obtain ⟨⟨⟨a0, a1⟩, m0, m1⟩, h⟩ := h
  simp only [t_l_grown, start3, N_l_grown, List.map_cons, List.map_nil, List.length_cons, List.length_nil, Nat.reduceAdd, Nat.reduceSub, Nat.zero_add, List.replicate, List.cons_append, List.nil_append]
  walk_at "l3"
  intro p hp
  walk_at "l3"
  unfold lp_l_grown_0
  walk_at "l3"
  refine Lp.rng (fun i σ H2 => Sub3 H H2 ∧ H2 p = some (.lst ((gr ns at0 many i).map prP)) ∧ ∃ k c s, σ = [some (.fl (ns.map D.int)), some (.int at0), some (.int many), some (.ref p), k, c, s]) ⟨Sub3.fresh hp, upd3_same, _, _, _, rfl⟩ ?_ ?_
  · rintro i σ H2 hi ⟨hs, hH, k, c, s, rfl⟩
    have hpos := gr_pos ns at0 many i
    have hmost := gr_most ns at0 many i
    have egr : gr ns at0 many (i + 1) = gstep (gr ns at0 many i) many (mix ns (at0 + (i : Int)) % ((gr ns at0 many i).length : Int)).toNat ((mix ns (at0 + (i : Int)) / 720) % 4).toNat := rfl
    have hi' : (i : Int) < 3 * many := by omega
    revert egr hH hpos hmost
    generalize gr ns at0 many i = ps
    intro hH hpos hmost egr
    walk_at "l3"
    refine u_l_mix (by omega) (by omega) ?_
    rw [Int.zero_add]
    generalize mix ns (at0 + (i : Int)) = m at egr
    have hl0 : (0 : Int) < ps.length := by omega
    have hl0' : (0 : Int) < ((ps.map prP).length : Int) := by rw [List.length_map]; exact hl0
    have n0 : 0 ≤ m % (ps.length : Int) := Int.emod_nonneg _ (by omega)
    have n1 : (m % (ps.length : Int)).toNat < ps.length := by have := Int.emod_lt_of_pos (m) hl0; omega
    walk_at "l3"
    rw [List.length_map]
    refine g_ixL hH (atI_map n0 n1) ?_
    unfold prP
    walk_at "l3"
    refine u_l_beside fun p2 hp2 => ?_
    walk_at "l3"
    have q0 : 0 ≤ m / 720 % 4 := by omega
    have q1 : (m / 720 % 4).toNat < (beside (ps[(m % (ps.length : Int)).toNat]'n1)).length := by show _ < 4; omega
    refine g_ixL upd3_same (atI_map (f := prP) q0 q1) ?_
    have ec : (beside (ps[(m % (ps.length : Int)).toNat]'n1))[(m / 720 % 4).toNat]'q1 = (beside (ps.getD (m % (ps.length : Int)).toNat (0, 0))).getD (m / 720 % 4).toNat (0, 0) := by
      rw [← List.getElem_eq_getD (h := n1) (0, 0), ← List.getElem_eq_getD (h := q1) (0, 0)]
    unfold gstep at egr
    rw [← ec] at egr
    generalize (beside (ps[(m % (ps.length : Int)).toNat]'n1))[(m / 720 % 4).toNat]'q1 = side at egr
    have hs2 := hs.trans (Sub3.fresh (o := .lst ((beside (ps[(m % (ps.length : Int)).toNat]'n1)).map prP)) hp2)
    have hH2 := upd3_old (u := .lst ((beside (ps[(m % (ps.length : Int)).toNat]'n1)).map prP)) hH hp2
    revert hs2 hH2
    generalize upd3 H2 p2 _ = H3
    intro hs2 hH2
    unfold prP
    walk_at "l3"
    refine ifD (fun c1 => ?_) fun c1 => ?_
    · walk_at "l3"
      refine g_ninX (seq_ref hH2) ?_
      walk_at "l3"
      refine ifN (fun c2 => ?_) fun c2 => ?_
      · walk_at "l3"
        refine u_l_shuts_in hH2 ?_
        walk_at "l3"
        refine ifB (fun c3 => ?_) fun c3 => ?_
        · walk_at "l3"
          refine g_app hH2 (small1000' (by rw [List.length_map]; omega)) ?_
          walk_at "l3"
          rw [egr, if_pos ⟨by rw [List.length_map] at c1; exact c1, c2, by simpa using c3⟩]
          refine ⟨fun b o hb => ?_, ?_, _, _, _, rfl⟩
          · rw [upd3_ne (ne3 hb hp)]; exact hs2 b o hb
          · rw [upd3_same, List.map_append]; rfl
        · walk_at "l3"
          rw [egr, if_neg (fun z => by have := z.2.2; rw [this] at c3; cases c3)]
          exact ⟨hs2, hH2, _, _, _, rfl⟩
      · refine ifX rfl ?_
        walk_at "l3"
        rw [egr, if_neg (fun z => z.2.1 c2)]
        exact ⟨hs2, hH2, _, _, _, rfl⟩
    · refine ifX rfl ?_
      walk_at "l3"
      rw [egr, if_neg (fun z => c1 (by rw [List.length_map]; exact z.1))]
      exact ⟨hs2, hH2, _, _, _, rfl⟩
  · rintro σ H2 ⟨hs, hH, k, c, s, rfl⟩
    walk_at "l3"
    exact g_fin (h p hp) (sub_upd hs hH)

def sp_in_order : Sp3 := fun ds H Q => match ds with
  | [.ref a] => (match H a with
    | some (.lst xs) => (match ptsOf xs with
      | some ps => ps.length < 64 ∧ ∀ p, H p = none → Q (.ref p) (upd3 H p (.lst ((isort ps).map prP)))
      | none => False)
    | _ => False)
  | _ => False
theorem u_in_order {ps : List Pt} {a : Addr} {H : Hp3} {Q : VK3} (ha : H a = some (.lst (ps.map prP))) (hl : ps.length < 64) (h : ∀ p, H p = none → Q (.ref p) (upd3 H p (.lst ((isort ps).map prP)))) : sp_in_order [.ref a] H Q := by
  simp only [sp_in_order, ha, ptsOf_map]; exact ⟨hl, h⟩
theorem len_in_order : ∀ (ds : List D) (H : Hp3) (Q : VK3), sp_in_order ds H Q → ds.length = P_in_order.length := by
  intro ds H Q h
  unfold sp_in_order at h
  split at h
  · rfl
  · exact h.elim

def t_in_order : TS3 := (rt3 (so3 sp_rank_of (v3 0)))
theorem rd_in_order : ∀ (ds : List D) (H : Hp3) (Q : VK3), sp_in_order ds H Q → t_in_order (fin3 Q) (start3 N_in_order ds) H := by
  intro ds H Q h
  unfold sp_in_order at h
  split at h
  case h_2 => exact h.elim
  rename_i a
  split at h
  case h_2 => exact h.elim
  rename_i xs ha
  split at h
  case h_2 => exact h.elim
  rename_i ps e
  have e' := ptsOf_inv e
  subst e'
  obtain ⟨hl, h⟩ := h
  simp only [t_in_order, start3, N_in_order, List.map_cons, List.map_nil, List.length_cons, List.length_nil, Nat.reduceAdd, Nat.reduceSub, Nat.zero_add, List.replicate, List.cons_append, List.nil_append]
  walk_at "l3"
  refine g_sok ha key_rank hl fun p hp => ?_
  exact g_fin (h p hp) Sub3.refl

def ustep (acc : List Pt) (c : Pt) : List Pt := if acc.getLast? = some c then acc else acc ++ [c]
def uniq (ps : List Pt) : List Pt := ps.foldl ustep []
theorem uniq_take {ps : List Pt} {i : Nat} {c : Pt} (h : ps[i]? = some c) : uniq (ps.take (i + 1)) = ustep (uniq (ps.take i)) c := by
  unfold uniq; rw [List.take_add_one, h, List.foldl_append]; rfl
theorem ustep_len (acc : List Pt) (c : Pt) : (ustep acc c).length ≤ acc.length + 1 := by unfold ustep; split <;> simp
theorem foldl_ustep_len : ∀ (ps acc : List Pt), (ps.foldl ustep acc).length ≤ acc.length + ps.length
  | [], acc => by simp
  | p :: ps, acc => by
    rw [List.foldl_cons]
    have := foldl_ustep_len ps (ustep acc p)
    have := ustep_len acc p
    rw [List.length_cons]; omega
theorem uniq_len (ps : List Pt) : (uniq ps).length ≤ ps.length := by have := foldl_ustep_len ps []; simpa [uniq] using this
theorem atI_getLast {acc : List Pt} {c : Pt} (h : acc.getLast? = some c) : atI (acc.map prP) (-1) = some (prP c) := by
  have hn : acc ≠ [] := by intro z; rw [z] at h; simp at h
  have hl : 0 < acc.length := List.length_pos_iff.mpr hn
  unfold atI ixN
  rw [if_neg (by omega), if_pos (by rw [List.length_map]; omega), Option.bind_some, List.length_map, show ((-1 : Int) + (acc.length : Int)).toNat = acc.length - 1 by omega, List.getElem?_map, ← List.getLast?_eq_getElem?, h]
  rfl
def sp_unlike_in_order : Sp3 := fun ds H Q => match ds with
  | [.ref a] => (match H a with
    | some (.lst xs) => (match ptsOf xs with
      | some ps => ps.length < 64 ∧ ∀ p, H p = none → Q (.ref p) (upd3 H p (.lst ((uniq (isort ps)).map prP)))
      | none => False)
    | _ => False)
  | _ => False
theorem u_unlike_in_order {ps : List Pt} {a : Addr} {H : Hp3} {Q : VK3} (ha : H a = some (.lst (ps.map prP))) (hl : ps.length < 64) (h : ∀ p, H p = none → Q (.ref p) (upd3 H p (.lst ((uniq (isort ps)).map prP)))) : sp_unlike_in_order [.ref a] H Q := by
  simp only [sp_unlike_in_order, ha, ptsOf_map]; exact ⟨hl, h⟩
theorem len_unlike_in_order : ∀ (ds : List D) (H : Hp3) (Q : VK3), sp_unlike_in_order ds H Q → ds.length = P_unlike_in_order.length := by
  intro ds H Q h
  unfold sp_unlike_in_order at h
  split at h
  · rfl
  · exact h.elim

def lp_unlike_in_order_0 : TS3 := fo3 (il3 (cb3 sp_in_order (cons3 (v3 0) nil3))) (gn3 2) (is3 (or3 (ts3 (o3 r3eq (cb3 r3len (cons3 (v3 1) nil3)) (c3 (.int 0)))) (ts3 (o3 r3ne (o3 r3ix (v3 1) (u3 r3neg (c3 (.int 1)))) (v3 2)))) (dr3 (m3 r3app (v3 1) (cons3 (v3 2) nil3))) nx3)
def t_unlike_in_order : TS3 := (sq3 (st3 1 (ls3 nil3))
    (sq3 lp_unlike_in_order_0
    (rt3 (v3 1))))
theorem rd_unlike_in_order : ∀ (ds : List D) (H : Hp3) (Q : VK3), sp_unlike_in_order ds H Q → t_unlike_in_order (fin3 Q) (start3 N_unlike_in_order ds) H := by
  intro ds H Q h
  unfold sp_unlike_in_order at h
  split at h
  case h_2 => exact h.elim
  rename_i a
  split at h
  case h_2 => exact h.elim
  rename_i xs ha
  split at h
  case h_2 => exact h.elim
  rename_i ps e
  have e' := ptsOf_inv e
  subst e'
  obtain ⟨hl, h⟩ := h
  simp only [t_unlike_in_order, start3, N_unlike_in_order, List.map_cons, List.map_nil, List.length_cons, List.length_nil, Nat.reduceAdd, Nat.reduceSub, Nat.zero_add, List.replicate, List.cons_append, List.nil_append]
  walk_at "l3"
  intro p1 hp1
  walk_at "l3"
  unfold lp_unlike_in_order_0
  walk_at "l3"
  refine u_in_order (ps := ps) (by walk_at "l3h") hl fun p2 hp2 => ?_
  have hsl : (isort ps).length < 64 := by rw [isort_len]; exact hl
  generalize isort ps = qs at h hsl
  walk_at "l3"
  have n12 : p1 ≠ p2 := fun z => by rw [z, upd3_same] at hp2; cases hp2
  refine Lp.by (fun i σ H2 => Sub3 H H2 ∧ H2 p2 = some (.lst (qs.map prP)) ∧ H2 p1 = some (.lst ((uniq (qs.take i)).map prP)) ∧ ∃ c, σ = [some (.ref a), some (.ref p1), c])
    ⟨(Sub3.fresh hp1).trans (Sub3.fresh hp2), upd3_same, upd3_old upd3_same hp2, _, rfl⟩ (fun i σ H2 _ z => z.2.1) ?_ ?_
  · rintro i d σ H2 hd ⟨hs, h2, h1, c0, rfl⟩
    rw [List.getElem?_map] at hd
    obtain ⟨c, hc, rfl⟩ := Option.map_eq_some_iff.mp hd
    have hi : i < qs.length := (List.getElem?_eq_some_iff.mp hc).1
    have hul : (uniq (qs.take i)).length ≤ 64 := by have := uniq_len (qs.take i); rw [List.length_take] at this; omega
    rw [uniq_take hc]
    revert h1
    generalize uniq (qs.take i) = acc at hul
    intro h1
    have app : ∀ D0 : Ends3, acc.getLast? ≠ some c → (∀ H3, Sub3 H H3 ∧ H3 p2 = some (.lst (qs.map prP)) ∧ H3 p1 = some (.lst ((ustep acc c).map prP)) → D0.nx [some (.ref a), some (.ref p1), some (prP c)] H3) → dr3 (m3 r3app (v3 1) (cons3 (v3 2) nil3)) D0 [some (.ref a), some (.ref p1), some (prP c)] H2 := fun D0 hne k => by
      walk_at "l3"
      refine g_app h1 (small1000' (by rw [List.length_map]; omega)) ?_
      refine k _ ⟨fun b o hb => ?_, ?_, ?_⟩
      · rw [upd3_ne (ne3 hb hp1)]; exact hs b o hb
      · rw [upd3_ne (Ne.symm n12)]; exact h2
      · unfold ustep; rw [if_neg hne, upd3_same, List.map_append]; rfl
    walk_at "l3"
    refine ifD (fun hz => ?_) fun hz => ?_
    · have hn : acc = [] := by rw [List.length_map] at hz; exact List.eq_nil_of_length_eq_zero (by omega)
      refine ifY rfl ?_
      refine app _ (by rw [hn]; simp) fun H3 z => ?_
      walk_at "l3"
      exact ⟨z.1, z.2.1, z.2.2, _, rfl⟩
    · have hn : acc ≠ [] := fun z => hz (by rw [z]; rfl)
      obtain ⟨e0, he0⟩ : ∃ e0, acc.getLast? = some e0 := by
        cases hg : acc.getLast? with
        | none => exact absurd (List.getLast?_eq_none_iff.mp hg) hn
        | some e0 => exact ⟨e0, rfl⟩
      walk_at "l3"
      refine g_ixL h1 (atI_getLast he0) ?_
      unfold prP
      walk_at "l3"
      refine ifN (fun hne => ?_) fun hne => ?_
      · refine app _ (by rw [he0]; exact fun z => hne (by cases z; rfl)) fun H3 z => ?_
        walk_at "l3"
        exact ⟨z.1, z.2.1, z.2.2, _, rfl⟩
      · walk_at "l3"
        refine ⟨hs, h2, ?_, _, rfl⟩
        have ec : e0 = c := hne
        unfold ustep
        rw [if_pos (by rw [he0, ec])]
        exact h1
  · rintro σ H2 ⟨hs, h2, h1, c0, rfl⟩
    rw [List.length_map, List.take_length] at h1
    walk_at "l3"
    exact g_fin (h p1 hp1) (sub_upd hs h1)

/-- the cells of a list make a piece -/
structure Piece (cs : List Pt) : Prop where
  ne : cs ≠ []
  len : cs.length ≤ 10
  con : cutOff cs = none
  box : hei cs * wid cs ≤ 900
  bne : boxE cs ≠ []
  hol : cutOff (boxE cs) = none
def sp_piece_of : Sp3 := fun ds H Q => match ds with
  | [.ref a] => (match H a with
    | some (.lst xs) => (match ptsOf xs with
      | some ps => (ps.length < 64 ∧ Piece (uniq (isort ps))) ∧ Q (.tup ((uniq (isort ps)).map prP)) H
      | none => False)
    | _ => False)
  | _ => False
theorem u_piece_of {ps : List Pt} {a : Addr} {H : Hp3} {Q : VK3} (ha : H a = some (.lst (ps.map prP))) (hl : ps.length < 64) (hp : Piece (uniq (isort ps))) (h : Q (.tup ((uniq (isort ps)).map prP)) H) : sp_piece_of [.ref a] H Q := by
  simp only [sp_piece_of, ha, ptsOf_map]; exact ⟨⟨hl, hp⟩, h⟩
theorem len_piece_of : ∀ (ds : List D) (H : Hp3) (Q : VK3), sp_piece_of ds H Q → ds.length = P_piece_of.length := by
  intro ds H Q h
  unfold sp_piece_of at h
  split at h
  · rfl
  · exact h.elim

def t_piece_of : TS3 := (sq3 (st3 1 (cb3 sp_unlike_in_order (cons3 (v3 0) nil3)))
    (sq3 (is3 (ts3 (o3 r3eq (cb3 r3len (cons3 (v3 1) nil3)) (c3 (.int 0)))) ra3 nx3)
    (sq3 (is3 (ts3 (o3 i3gt (cb3 r3len (cons3 (v3 1) nil3)) (c3 (.int 10)))) ra3 nx3)
    (sq3 (st3 2 (cb3 sp_first_cut_off (cons3 (v3 1) nil3)))
    (sq3 (is3 (ts3 (o3 r3notN (v3 2) (c3 .non))) ra3 nx3)
    (sq3 (st3 3 (cb3 sp_first_cut_off (cons3 (cb3 sp_empty_in_box (cons3 (v3 1) nil3)) nil3)))
    (sq3 (is3 (ts3 (o3 r3notN (v3 3) (c3 .non))) ra3 nx3)
    (rt3 (cb3 r3tuple (cons3 (v3 1) nil3))))))))))
theorem rd_piece_of : ∀ (ds : List D) (H : Hp3) (Q : VK3), sp_piece_of ds H Q → t_piece_of (fin3 Q) (start3 N_piece_of ds) H := by
  intro ds H Q h
  unfold sp_piece_of at h
  split at h
  case h_2 => exact h.elim
  rename_i a
  split at h
  case h_2 => exact h.elim
  rename_i xs ha
  split at h
  case h_2 => exact h.elim
  rename_i ps e
  have e' := ptsOf_inv e
  subst e'
  obtain ⟨⟨hl, hp⟩, h⟩ := h
  simp only [t_piece_of, start3, N_piece_of, List.map_cons, List.map_nil, List.length_cons, List.length_nil, Nat.reduceAdd, Nat.reduceSub, Nat.zero_add, List.replicate, List.cons_append, List.nil_append]
  walk_at "l3"
  refine u_unlike_in_order ha hl fun p1 hp1 => ?_
  generalize uniq (isort ps) = cs at hp h
  have hn := hp.len
  have hbl : (boxE cs).length ≤ 900 := by
    have e1 := List.length_filter_le (fun c => !decide (c ∈ cs)) (rect (minX cs - 1) (wid cs) (minY cs - 1) (hei cs))
    rw [rect_len] at e1
    have := hp.box
    unfold boxE offP
    omega
  walk_at "l3"
  refine ifD (fun hz => absurd ?_ hp.ne) fun _ => ?_
  · rw [List.length_map] at hz; exact List.eq_nil_of_length_eq_zero (by omega)
  walk_at "l3"
  refine ifD (fun hz => ?_) fun _ => ?_
  · rw [List.length_map] at hz; omega
  walk_at "l3"
  refine u_first_cut_off upd3_same hp.ne (by omega) ?_
  rw [hp.con]
  walk_at "l3"
  refine ifX rfl ?_
  walk_at "l3"
  refine u_empty_in_box upd3_same hp.ne (by omega) hp.box fun p2 hp2 => ?_
  walk_at "l3"
  refine u_first_cut_off upd3_same hp.bne hbl ?_
  rw [hp.hol]
  walk_at "l3"
  refine ifX rfl ?_
  walk_at "l3"
  exact g_fin h ((Sub3.fresh hp1).trans (Sub3.fresh hp2))

/-! ### neighbours, ways -/
theorem mem4 {c n : Pt} : n ∈ around4 c ↔ n = (c.1 + 1, c.2) ∨ n = (c.1, c.2 + 1) ∨ n = (c.1 - 1, c.2) ∨ n = (c.1, c.2 - 1) := by simp [around4]
theorem pt_eq {a b : Pt} : a = b ↔ a.1 = b.1 ∧ a.2 = b.2 := Prod.ext_iff
theorem mem4' {c n : Pt} : n ∈ around4 c ↔ (n.1 = c.1 + 1 ∧ n.2 = c.2) ∨ (n.1 = c.1 ∧ n.2 = c.2 + 1) ∨ (n.1 = c.1 - 1 ∧ n.2 = c.2) ∨ (n.1 = c.1 ∧ n.2 = c.2 - 1) := by
  rw [mem4, pt_eq, pt_eq, pt_eq, pt_eq]
theorem sym4 {c n : Pt} (h : n ∈ around4 c) : c ∈ around4 n := by rw [mem4'] at h ⊢; omega
theorem irr4 {c : Pt} (h : c ∈ around4 c) : False := by rw [mem4'] at h; omega
theorem Conn.mem {S : List Pt} {s c : Pt} (hs : s ∈ S) (h : Conn S s c) : c ∈ S := by
  induction h with
  | refl => exact hs
  | step _ _ h _ => exact h
theorem Conn.trans {S : List Pt} {a b c : Pt} (h1 : Conn S a b) (h2 : Conn S b c) : Conn S a c := by
  induction h2 with
  | refl => exact h1
  | step _ h h' ih => exact .step ih h h'
theorem Conn.symm {S : List Pt} {a b : Pt} (ha : a ∈ S) (h : Conn S a b) : Conn S b a := by
  induction h with
  | refl => exact .refl
  | step k h h' ih => exact Conn.trans (.step .refl (sym4 h) (k.mem ha)) ih
theorem Conn.mono {S T : List Pt} {a b : Pt} (hs : ∀ x ∈ S, x ∈ T) (h : Conn S a b) : Conn T a b := by
  induction h with
  | refl => exact .refl
  | step _ h h' ih => exact .step ih h (hs _ h')
/-- a way past the cells of S -/
inductive Way (S : List Pt) (a : Pt) : Pt → Prop
  | refl : Way S a a
  | step {b n : Pt} : Way S a b → n ∈ around4 b → n ∉ S → Way S a n
theorem Way.off {S : List Pt} {a b : Pt} (ha : a ∉ S) (h : Way S a b) : b ∉ S := by
  cases h with
  | refl => exact ha
  | step _ _ h => exact h
theorem Way.trans {S : List Pt} {a b c : Pt} (h1 : Way S a b) (h2 : Way S b c) : Way S a c := by
  induction h2 with
  | refl => exact h1
  | step _ h h' ih => exact .step ih h h'
theorem Way.symm {S : List Pt} {a b : Pt} (ha : a ∉ S) (h : Way S a b) : Way S b a := by
  induction h with
  | refl => exact .refl
  | step k h h' ih => exact Way.trans (.step .refl (sym4 h) (k.off ha)) ih
theorem Way.congr {S T : List Pt} {a b : Pt} (hs : ∀ x, x ∈ T → x ∈ S) (h : Way S a b) : Way T a b := by
  induction h with
  | refl => exact .refl
  | step _ h h' ih => exact .step ih h fun z => h' (hs _ z)
/-- a way leads above S -/
def Esc (S : List Pt) (a : Pt) : Prop := ∃ b, Way S a b ∧ ∀ c ∈ S, c.2 < b.2
structure Good (S : List Pt) : Prop where
  con : ∀ a ∈ S, ∀ b ∈ S, Conn S a b
  esc : ∀ a, a ∉ S → Esc S a
  bnd : ∀ a ∈ S, ∀ b ∈ S, a.1 - b.1 ≤ 18 ∧ a.2 - b.2 ≤ 18
theorem Good.congr {S T : List Pt} (h : ∀ x, x ∈ S ↔ x ∈ T) (g : Good S) : Good T :=
  ⟨fun a ha b hb => (g.con a ((h a).mpr ha) b ((h b).mpr hb)).mono fun x hx => (h x).mp hx,
    fun a ha => by
      obtain ⟨b, w, hb⟩ := g.esc a (fun z => ha ((h a).mp z))
      exact ⟨b, w.congr fun x hx => (h x).mpr hx, fun c hc => hb c ((h c).mpr hc)⟩,
    fun a ha b hb => g.bnd a ((h a).mpr ha) b ((h b).mpr hb)⟩
/-! ### moved -/
def mvP (s p : Pt) : Pt := (p.1 + s.1, p.2 + s.2)
theorem mv4 {s c n : Pt} (h : n ∈ around4 c) : mvP s n ∈ around4 (mvP s c) := by rw [mem4'] at h ⊢; unfold mvP; dsimp only; omega
theorem mv_back (s p : Pt) : mvP (-s.1, -s.2) (mvP s p) = p := by unfold mvP; exact Prod.ext (by dsimp only; omega) (by dsimp only; omega)
theorem mv_forth (s p : Pt) : mvP s (mvP (-s.1, -s.2) p) = p := by unfold mvP; exact Prod.ext (by dsimp only; omega) (by dsimp only; omega)
theorem mem_mv {S : List Pt} {s p : Pt} : p ∈ S.map (mvP s) ↔ mvP (-s.1, -s.2) p ∈ S := by
  rw [List.mem_map]
  constructor
  · rintro ⟨q, hq, rfl⟩; rw [mv_back]; exact hq
  · intro h; exact ⟨_, h, mv_forth s p⟩
theorem Conn.mv {S : List Pt} {a b : Pt} (s : Pt) (h : Conn S a b) : Conn (S.map (mvP s)) (mvP s a) (mvP s b) := by
  induction h with
  | refl => exact .refl
  | step _ h h' ih => exact .step ih (mv4 h) (List.mem_map.mpr ⟨_, h', rfl⟩)
theorem Way.mv {S : List Pt} {a b : Pt} (s : Pt) (h : Way S a b) : Way (S.map (mvP s)) (mvP s a) (mvP s b) := by
  induction h with
  | refl => exact .refl
  | step _ h h' ih => exact .step ih (mv4 h) fun z => h' (by have := mem_mv.mp z; rwa [mv_back] at this)
theorem Good.mv {S : List Pt} (s : Pt) (g : Good S) : Good (S.map (mvP s)) := by
  refine ⟨fun a ha b hb => ?_, fun a ha => ?_, fun a ha b hb => ?_⟩
  · obtain ⟨p, hp, rfl⟩ := List.mem_map.mp ha
    obtain ⟨q, hq, rfl⟩ := List.mem_map.mp hb
    exact (g.con p hp q hq).mv s
  · obtain ⟨b, w, hb⟩ := g.esc (mvP (-s.1, -s.2) a) fun z => ha (mem_mv.mpr z)
    refine ⟨mvP s b, ?_, fun c hc => ?_⟩
    · have := w.mv s
      rw [mv_forth] at this
      exact this
    · obtain ⟨q, hq, rfl⟩ := List.mem_map.mp hc
      have := hb q hq
      unfold mvP; dsimp only; omega
  · obtain ⟨p, hp, rfl⟩ := List.mem_map.mp ha
    obtain ⟨q, hq, rfl⟩ := List.mem_map.mp hb
    have := g.bnd p hp q hq
    unfold mvP; dsimp only; omega
/-! ### grown -/
theorem good_one : (∀ a, a ∉ [((0, 0) : Pt)] → Esc [((0, 0) : Pt)] a) := by
  intro a ha
  have up : ∀ (k : Nat) (b : Pt), b.1 ≠ 0 → Way [((0, 0) : Pt)] b (b.1, b.2 + (k : Int)) := fun k => by
    induction k with
    | zero => intro b _; rw [show (b.1, b.2 + ((0 : Nat) : Int)) = b from Prod.ext rfl (by dsimp only; omega)]; exact .refl
    | succ k ih =>
      intro b hb
      refine .step (ih b hb) (by rw [mem4']; dsimp only; omega) ?_
      rw [List.mem_singleton, pt_eq]; dsimp only; omega
  have hne : ¬ (a.1 = 0 ∧ a.2 = 0) := fun z => ha (by rw [List.mem_singleton, pt_eq]; exact z)
  by_cases h1 : a.1 = 0
  · by_cases h2 : 0 < a.2
    · exact ⟨a, .refl, fun c hc => by rw [List.mem_singleton.mp hc]; exact h2⟩
    · have w : Way [((0, 0) : Pt)] a (a.1 + 1, a.2) := .step .refl (by rw [mem4']; dsimp only; omega) (by rw [List.mem_singleton, pt_eq]; dsimp only; omega)
      refine ⟨_, w.trans (up (1 + a.2.natAbs) (a.1 + 1, a.2) (by dsimp only; omega)), fun c hc => ?_⟩
      rw [List.mem_singleton.mp hc]; dsimp only; omega
  · refine ⟨_, up (1 + a.2.natAbs) a h1, fun c hc => ?_⟩
    rw [List.mem_singleton.mp hc]; dsimp only; omega
theorem ring_bool : ∀ e0 e1 e2 e3 e4 e5 e6 e7 : Bool,
    ((if (e0 && !(e7 && e6)) = true then 1 else 0) + (if (e2 && !(e1 && e0)) = true then 1 else 0) + (if (e4 && !(e3 && e2)) = true then 1 else 0) + (if (e6 && !(e5 && e4)) = true then 1 else 0) : Nat) ≤ 1 →
    (e0 = true → e2 = true → (e1 || (e7 && e6 && e5 && e4 && e3)) = true) ∧ (e0 = true → e4 = true → ((e1 && e2 && e3) || (e7 && e6 && e5)) = true) ∧ (e0 = true → e6 = true → (e7 || (e1 && e2 && e3 && e4 && e5)) = true) ∧
    (e2 = true → e4 = true → (e3 || (e1 && e0 && e7 && e6 && e5)) = true) ∧ (e2 = true → e6 = true → ((e3 && e4 && e5) || (e1 && e0 && e7)) = true) ∧ (e4 = true → e6 = true → (e5 || (e3 && e2 && e1 && e0 && e7)) = true) := by decide +kernel
section
variable {S : List Pt} {c : Pt}
/-- round the cell c: what is empty -/
def eR (S : List Pt) (c : Pt) (k : Nat) : Bool := !decide ((ring c).getD k (0, 0) ∈ S)
theorem rn_eq (S : List Pt) (c : Pt) : rn S c 4 = (((if (eR S c 0 && !(eR S c 7 && eR S c 6)) = true then 1 else 0) + (if (eR S c 2 && !(eR S c 1 && eR S c 0)) = true then 1 else 0) + (if (eR S c 4 && !(eR S c 3 && eR S c 2)) = true then 1 else 0) + (if (eR S c 6 && !(eR S c 5 && eR S c 4)) = true then 1 else 0) : Nat) : Int) := by
  have e : rn S c 4 = 0 + (if (eR S c 0 && !(eR S c 7 && eR S c 6)) = true then 1 else 0) + (if (eR S c 2 && !(eR S c 1 && eR S c 0)) = true then 1 else 0) + (if (eR S c 4 && !(eR S c 3 && eR S c 2)) = true then 1 else 0) + (if (eR S c 6 && !(eR S c 5 && eR S c 4)) = true then 1 else 0) := rfl
  rw [e]
  push_cast
  rw [Int.zero_add]
  split <;> split <;> split <;> split <;> rfl
theorem eR_off {k : Nat} (h : eR S c k = true) : (ring c).getD k (0, 0) ∉ S := by unfold eR at h; simpa using h
theorem eR_of {k : Nat} {p : Pt} (e : (ring c).getD k (0, 0) = p) (h : p ∉ S) : eR S c k = true := by unfold eR; rw [e]; simpa using h
/-- round the corner -/
theorem way2 {a b d : Pt} (hb : b ∈ around4 a) (hd : d ∈ around4 b) (nb : b ∉ S ++ [c]) (nd : d ∉ S ++ [c]) : Way (S ++ [c]) a d := .step (.step .refl hb nb) hd nd
theorem ring_way (h : shuts S c = false) {u v : Pt} (hu : u ∈ around4 c) (hv : v ∈ around4 c) (nu : u ∉ S) (nv : v ∉ S) : Way (S ++ [c]) u v := by
  have hcnt : rn S c 4 ≤ 1 := by unfold shuts at h; simpa using h
  rw [rn_eq] at hcnt
  obtain ⟨b1, b2, b3, b4, b5, b6⟩ := ring_bool (eR S c 0) (eR S c 1) (eR S c 2) (eR S c 3) (eR S c 4) (eR S c 5) (eR S c 6) (eR S c 7) (by omega)
  have off : ∀ k, eR S c k = true → (ring c).getD k (0, 0) ≠ c → (ring c).getD k (0, 0) ∉ S ++ [c] := fun k hk hne z => by
    rcases List.mem_append.mp z with z | z
    · exact eR_off hk z
    · exact hne (List.mem_singleton.mp z)
  have ne : ∀ k, k < 8 → (ring c).getD k (0, 0) ≠ c := fun k hk => by
    match k, hk with
    | 0, _ => show (c.1 + 1, c.2) ≠ c; intro z; have := congrArg Prod.fst z; dsimp only at this; omega
    | 1, _ => show (c.1 + 1, c.2 + 1) ≠ c; intro z; have := congrArg Prod.fst z; dsimp only at this; omega
    | 2, _ => show (c.1, c.2 + 1) ≠ c; intro z; have := congrArg Prod.snd z; dsimp only at this; omega
    | 3, _ => show (c.1 - 1, c.2 + 1) ≠ c; intro z; have := congrArg Prod.fst z; dsimp only at this; omega
    | 4, _ => show (c.1 - 1, c.2) ≠ c; intro z; have := congrArg Prod.fst z; dsimp only at this; omega
    | 5, _ => show (c.1 - 1, c.2 - 1) ≠ c; intro z; have := congrArg Prod.fst z; dsimp only at this; omega
    | 6, _ => show (c.1, c.2 - 1) ≠ c; intro z; have := congrArg Prod.snd z; dsimp only at this; omega
    | 7, _ => show (c.1 + 1, c.2 - 1) ≠ c; intro z; have := congrArg Prod.fst z; dsimp only at this; omega
  have st : ∀ k l, k < 8 → l < 8 → (ring c).getD l (0, 0) ∈ around4 ((ring c).getD k (0, 0)) → eR S c l = true → Way (S ++ [c]) ((ring c).getD k (0, 0)) ((ring c).getD l (0, 0)) := fun k l hk hl ha he => .step .refl ha (off l he (ne l hl))
  have n01 : (ring c).getD 1 (0, 0) ∈ around4 ((ring c).getD 0 (0, 0)) := by rw [mem4']; simp [ring]
  have n12 : (ring c).getD 2 (0, 0) ∈ around4 ((ring c).getD 1 (0, 0)) := by rw [mem4']; simp [ring]
  have n23 : (ring c).getD 3 (0, 0) ∈ around4 ((ring c).getD 2 (0, 0)) := by rw [mem4']; simp [ring]
  have n34 : (ring c).getD 4 (0, 0) ∈ around4 ((ring c).getD 3 (0, 0)) := by rw [mem4']; simp [ring]
  have n45 : (ring c).getD 5 (0, 0) ∈ around4 ((ring c).getD 4 (0, 0)) := by rw [mem4']; simp [ring]
  have n56 : (ring c).getD 6 (0, 0) ∈ around4 ((ring c).getD 5 (0, 0)) := by rw [mem4']; simp [ring]
  have n67 : (ring c).getD 7 (0, 0) ∈ around4 ((ring c).getD 6 (0, 0)) := by rw [mem4']; simp [ring]
  have n70 : (ring c).getD 0 (0, 0) ∈ around4 ((ring c).getD 7 (0, 0)) := by rw [mem4']; simp [ring]
  have f : ∀ k l, k < 8 → l < 8 → (ring c).getD l (0, 0) ∈ around4 ((ring c).getD k (0, 0)) → eR S c k = true → eR S c l = true → Way (S ++ [c]) ((ring c).getD k (0, 0)) ((ring c).getD l (0, 0)) ∧ Way (S ++ [c]) ((ring c).getD l (0, 0)) ((ring c).getD k (0, 0)) := fun k l hk hl ha h1 h2 => ⟨st k l hk hl ha h2, st l k hl hk (sym4 ha) h1⟩
  have w : ∀ k l, (k = 0 ∧ l = 2) ∨ (k = 0 ∧ l = 4) ∨ (k = 0 ∧ l = 6) ∨ (k = 2 ∧ l = 4) ∨ (k = 2 ∧ l = 6) ∨ (k = 4 ∧ l = 6) → eR S c k = true → eR S c l = true → Way (S ++ [c]) ((ring c).getD k (0, 0)) ((ring c).getD l (0, 0)) := by
    intro k l hkl hk hl
    have up := fun a b (ha : a < 8) (hb : b < 8) n h1 h2 => (f a b ha hb n h1 h2).1
    have dn := fun a b (ha : a < 8) (hb : b < 8) n h1 h2 => (f a b ha hb n h1 h2).2
    rcases hkl with ⟨rfl, rfl⟩ | ⟨rfl, rfl⟩ | ⟨rfl, rfl⟩ | ⟨rfl, rfl⟩ | ⟨rfl, rfl⟩ | ⟨rfl, rfl⟩
    · have b := b1 hk hl
      simp only [Bool.or_eq_true, Bool.and_eq_true] at b
      rcases b with b | ⟨⟨⟨⟨x7, x6⟩, x5⟩, x4⟩, x3⟩
      · exact (up 0 1 (by decide) (by decide) n01 hk b).trans (up 1 2 (by decide) (by decide) n12 b hl)
      · exact (((((dn 7 0 (by decide) (by decide) n70 x7 hk).trans (dn 6 7 (by decide) (by decide) n67 x6 x7)).trans (dn 5 6 (by decide) (by decide) n56 x5 x6)).trans (dn 4 5 (by decide) (by decide) n45 x4 x5)).trans (dn 3 4 (by decide) (by decide) n34 x3 x4)).trans (dn 2 3 (by decide) (by decide) n23 hl x3)
    · have b := b2 hk hl
      simp only [Bool.or_eq_true, Bool.and_eq_true] at b
      rcases b with ⟨⟨x1, x2⟩, x3⟩ | ⟨⟨x7, x6⟩, x5⟩
      · exact (((up 0 1 (by decide) (by decide) n01 hk x1).trans (up 1 2 (by decide) (by decide) n12 x1 x2)).trans (up 2 3 (by decide) (by decide) n23 x2 x3)).trans (up 3 4 (by decide) (by decide) n34 x3 hl)
      · exact (((dn 7 0 (by decide) (by decide) n70 x7 hk).trans (dn 6 7 (by decide) (by decide) n67 x6 x7)).trans (dn 5 6 (by decide) (by decide) n56 x5 x6)).trans (dn 4 5 (by decide) (by decide) n45 hl x5)
    · have b := b3 hk hl
      simp only [Bool.or_eq_true, Bool.and_eq_true] at b
      rcases b with b | ⟨⟨⟨⟨x1, x2⟩, x3⟩, x4⟩, x5⟩
      · exact (dn 7 0 (by decide) (by decide) n70 b hk).trans (dn 6 7 (by decide) (by decide) n67 hl b)
      · exact (((((up 0 1 (by decide) (by decide) n01 hk x1).trans (up 1 2 (by decide) (by decide) n12 x1 x2)).trans (up 2 3 (by decide) (by decide) n23 x2 x3)).trans (up 3 4 (by decide) (by decide) n34 x3 x4)).trans (up 4 5 (by decide) (by decide) n45 x4 x5)).trans (up 5 6 (by decide) (by decide) n56 x5 hl)
    · have b := b4 hk hl
      simp only [Bool.or_eq_true, Bool.and_eq_true] at b
      rcases b with b | ⟨⟨⟨⟨x1, x0⟩, x7⟩, x6⟩, x5⟩
      · exact (up 2 3 (by decide) (by decide) n23 hk b).trans (up 3 4 (by decide) (by decide) n34 b hl)
      · exact (((((dn 1 2 (by decide) (by decide) n12 x1 hk).trans (dn 0 1 (by decide) (by decide) n01 x0 x1)).trans (dn 7 0 (by decide) (by decide) n70 x7 x0)).trans (dn 6 7 (by decide) (by decide) n67 x6 x7)).trans (dn 5 6 (by decide) (by decide) n56 x5 x6)).trans (dn 4 5 (by decide) (by decide) n45 hl x5)
    · have b := b5 hk hl
      simp only [Bool.or_eq_true, Bool.and_eq_true] at b
      rcases b with ⟨⟨x3, x4⟩, x5⟩ | ⟨⟨x1, x0⟩, x7⟩
      · exact (((up 2 3 (by decide) (by decide) n23 hk x3).trans (up 3 4 (by decide) (by decide) n34 x3 x4)).trans (up 4 5 (by decide) (by decide) n45 x4 x5)).trans (up 5 6 (by decide) (by decide) n56 x5 hl)
      · exact (((dn 1 2 (by decide) (by decide) n12 x1 hk).trans (dn 0 1 (by decide) (by decide) n01 x0 x1)).trans (dn 7 0 (by decide) (by decide) n70 x7 x0)).trans (dn 6 7 (by decide) (by decide) n67 hl x7)
    · have b := b6 hk hl
      simp only [Bool.or_eq_true, Bool.and_eq_true] at b
      rcases b with b | ⟨⟨⟨⟨x3, x2⟩, x1⟩, x0⟩, x7⟩
      · exact (up 4 5 (by decide) (by decide) n45 hk b).trans (up 5 6 (by decide) (by decide) n56 b hl)
      · exact (((((dn 3 4 (by decide) (by decide) n34 x3 hk).trans (dn 2 3 (by decide) (by decide) n23 x2 x3)).trans (dn 1 2 (by decide) (by decide) n12 x1 x2)).trans (dn 0 1 (by decide) (by decide) n01 x0 x1)).trans (dn 7 0 (by decide) (by decide) n70 x7 x0)).trans (dn 6 7 (by decide) (by decide) n67 hl x7)
  have idx : ∀ p, p ∈ around4 c → ∃ k, (k = 0 ∨ k = 2 ∨ k = 4 ∨ k = 6) ∧ (ring c).getD k (0, 0) = p := fun p hp => by
    rw [mem4] at hp
    rcases hp with rfl | rfl | rfl | rfl
    · exact ⟨0, by simp, rfl⟩
    · exact ⟨2, by simp, rfl⟩
    · exact ⟨4, by simp, rfl⟩
    · exact ⟨6, by simp, rfl⟩
  obtain ⟨k, hk, ek⟩ := idx u hu
  obtain ⟨l, hl, el⟩ := idx v hv
  have hke := eR_of ek nu
  have hle := eR_of el nv
  have nu' : u ∉ S ++ [c] := by rw [← ek]; exact off k hke (ne k (by omega))
  have nv' : v ∉ S ++ [c] := by rw [← el]; exact off l hle (ne l (by omega))
  by_cases e : k = l
  · subst e
    rw [← ek, ← el]; exact .refl
  · by_cases hlt : k < l
    · have := w k l (by omega) hke hle
      rw [ek, el] at this; exact this
    · have := w l k (by omega) hle hke
      rw [ek, el] at this
      exact this.symm nv'
end
theorem reroute {S : List Pt} {c a b : Pt} (h : shuts S c = false) (ha : a ∉ S) (hac : a ≠ c) (w : Way S a b) : (b ≠ c → Way (S ++ [c]) a b) ∧ (b = c → ∀ v ∈ around4 c, v ∉ S → Way (S ++ [c]) a v) := by
  induction w with
  | refl => exact ⟨fun _ => .refl, fun z => absurd z hac⟩
  | @step b n k hn ho ih =>
    have hb : b ∉ S := k.off ha
    refine ⟨fun hnc => ?_, fun hnc v hv nv => ?_⟩
    · by_cases hbc : b = c
      · exact ih.2 hbc n (hbc ▸ hn) ho
      · exact .step (ih.1 hbc) hn fun z => by
          rcases List.mem_append.mp z with z | z
          · exact ho z
          · exact hnc (List.mem_singleton.mp z)
    · by_cases hbc : b = c
      · exact (irr4 (hnc ▸ hbc ▸ hn)).elim
      · exact (ih.1 hbc).trans (ring_way h (sym4 (hnc ▸ hn)) hv hb nv)
theorem esc_step {S : List Pt} {c d : Pt} (hd : d ∈ S) (hcd : c ∈ around4 d) (h : shuts S c = false) (g : ∀ a, a ∉ S → Esc S a) : ∀ a, a ∉ S ++ [c] → Esc (S ++ [c]) a := by
  intro a ha
  have ha1 : a ∉ S := fun z => ha (List.mem_append_left _ z)
  have hac : a ≠ c := fun z => ha (by rw [z]; simp)
  obtain ⟨b, w, hb⟩ : ∃ b, Way S a b ∧ (∀ e ∈ S, e.2 < b.2) ∧ b ≠ c := by
    obtain ⟨b, w, hb⟩ := g a ha1
    by_cases hbc : b = c
    · have hab : ∀ e ∈ S, e.2 < (b.1, b.2 + 1).2 := fun e he => by have := hb e he; dsimp only; omega
      exact ⟨(b.1, b.2 + 1), .step w (by rw [mem4']; dsimp only; omega) (fun z => by have := hb _ z; dsimp only at this; omega), hab, fun z => by rw [← hbc, pt_eq] at z; dsimp only at z; omega⟩
    · exact ⟨b, w, hb, hbc⟩
  have w' := (reroute h ha1 hac w).1 hb.2
  have hdb := hb.1 d hd
  rw [mem4'] at hcd
  by_cases hlt : c.2 < b.2
  · refine ⟨b, w', fun e he => ?_⟩
    rcases List.mem_append.mp he with he | he
    · exact hb.1 e he
    · rw [List.mem_singleton.mp he]; exact hlt
  · have hx : b.1 ≠ c.1 := fun z => hb.2 (pt_eq.mpr ⟨z, by omega⟩)
    refine ⟨(b.1, b.2 + 1), .step w' (by rw [mem4']; dsimp only; omega) (fun z => ?_), fun e he => ?_⟩
    · rcases List.mem_append.mp z with z | z
      · have := hb.1 _ z; dsimp only at this; omega
      · have := List.mem_singleton.mp z; rw [pt_eq] at this; dsimp only at this; omega
    · rcases List.mem_append.mp he with he | he
      · have := hb.1 e he; dsimp only; omega
      · rw [List.mem_singleton.mp he]; dsimp only; omega
/-- what holds of a grown list -/
structure Grn (S : List Pt) : Prop where
  nd : S.Nodup
  z : (0, 0) ∈ S
  con : ∀ c ∈ S, Conn S (0, 0) c
  esc : ∀ a, a ∉ S → Esc S a
  bnd : ∀ c ∈ S, -(S.length : Int) < c.1 ∧ c.1 < S.length ∧ -(S.length : Int) < c.2 ∧ c.2 < S.length
theorem beside4 (p : Pt) : beside p = around4 p := rfl
theorem grn_one : Grn [(0, 0)] := ⟨by simp, by simp, fun c hc => by rw [List.mem_singleton.mp hc]; exact .refl, good_one, fun c hc => by rw [List.mem_singleton.mp hc]; simp⟩
theorem grn_step {S : List Pt} {many : Int} {i j : Nat} (g : Grn S) (hi : i < S.length) (hj : j < 4) : Grn (gstep S many i j) := by
  unfold gstep
  split
  · rename_i h
    obtain ⟨_, hn, hs⟩ := h
    have hd : S.getD i (0, 0) ∈ S := by rw [show S.getD i (0, 0) = S[i] by simp [hi]]; exact List.getElem_mem hi
    generalize S.getD i (0, 0) = d at hn hs hd
    have hc : (beside d).getD j (0, 0) ∈ around4 d := by
      rw [← beside4]
      have hl : j < (beside d).length := hj
      rw [show (beside d).getD j (0, 0) = (beside d)[j] by simp [hl]]
      exact List.getElem_mem hl
    generalize (beside d).getD j (0, 0) = c at hn hs hc
    have hb := g.bnd d hd
    have hc' := mem4'.mp hc
    refine ⟨?_, List.mem_append_left _ g.z, fun e he => ?_, esc_step hd hc hs g.esc, fun e he => ?_⟩
    · rw [List.nodup_append]
      exact ⟨g.nd, by simp, fun a ha b hb => by rw [List.mem_singleton.mp hb]; exact fun z => hn (z ▸ ha)⟩
    · rcases List.mem_append.mp he with he | he
      · exact (g.con e he).mono fun x hx => List.mem_append_left _ hx
      · rw [List.mem_singleton.mp he]
        exact .step ((g.con d hd).mono fun x hx => List.mem_append_left _ hx) hc (by simp)
    · rw [List.length_append, List.length_singleton]
      rcases List.mem_append.mp he with he | he
      · have := g.bnd e he; omega
      · rw [List.mem_singleton.mp he]; omega
  · exact g
theorem Grn.good {S : List Pt} (g : Grn S) (hl : S.length ≤ 10) : Good S := by
  refine ⟨fun a ha b hb => (Conn.symm g.z (g.con a ha)).trans (g.con b hb), g.esc, fun a ha b hb => ?_⟩
  have h1 := g.bnd a ha
  have h2 := g.bnd b hb
  omega
theorem gr_grn (ns : List Int) (at0 many : Int) : ∀ k, Grn (gr ns at0 many k)
  | 0 => grn_one
  | k + 1 => by
    have ih := gr_grn ns at0 many k
    have hp := gr_pos ns at0 many k
    refine grn_step ih ?_ ?_
    · have := Int.emod_lt_of_pos (mix ns (at0 + (k : Int))) (show (0 : Int) < ((gr ns at0 many k).length : Int) by omega)
      have := Int.emod_nonneg (mix ns (at0 + (k : Int))) (show ((gr ns at0 many k).length : Int) ≠ 0 by omega)
      omega
    · omega
/-! ### the box -/
theorem mem_row {x0 y : Int} {n : Nat} {c : Pt} : c ∈ rowP x0 n y ↔ x0 ≤ c.1 ∧ c.1 < x0 + n ∧ c.2 = y := by
  unfold rowP
  rw [List.mem_map]
  constructor
  · rintro ⟨i, hi, rfl⟩
    have := List.mem_range.mp hi
    dsimp only; omega
  · intro h
    refine ⟨(c.1 - x0).toNat, List.mem_range.mpr (by omega), ?_⟩
    rw [pt_eq]; dsimp only; omega
theorem mem_rect {x0 y0 : Int} {n : Nat} {c : Pt} : ∀ {m : Nat}, c ∈ rect x0 n y0 m ↔ x0 ≤ c.1 ∧ c.1 < x0 + n ∧ y0 ≤ c.2 ∧ c.2 < y0 + m
  | 0 => by simp [rect]
  | m + 1 => by
    rw [rect, List.mem_append, mem_rect (m := m), mem_row]
    push_cast
    omega
section
variable {S : List Pt}
theorem minX_le {c : Pt} (h : c ∈ S) : minX S ≤ c.1 := minL_le' (List.mem_map.mpr ⟨c, h, rfl⟩)
theorem minY_le {c : Pt} (h : c ∈ S) : minY S ≤ c.2 := minL_le' (List.mem_map.mpr ⟨c, h, rfl⟩)
theorem maxX_ge {c : Pt} (h : c ∈ S) : c.1 ≤ maxX S := maxL_ge' (List.mem_map.mpr ⟨c, h, rfl⟩)
theorem maxY_ge {c : Pt} (h : c ∈ S) : c.2 ≤ maxY S := maxL_ge' (List.mem_map.mpr ⟨c, h, rfl⟩)
theorem box_mem (hn : S ≠ []) {c : Pt} : c ∈ boxE S ↔ (minX S - 1 ≤ c.1 ∧ c.1 ≤ maxX S + 1 ∧ minY S - 1 ≤ c.2 ∧ c.2 ≤ maxY S + 1) ∧ c ∉ S := by
  obtain ⟨d, hd⟩ := List.exists_mem_of_ne_nil _ hn
  have h1 := minX_le hd; have h2 := maxX_ge hd; have h3 := minY_le hd; have h4 := maxY_ge hd
  unfold boxE offP
  rw [List.mem_filter, mem_rect]
  unfold wid hei
  simp only [Bool.not_eq_true', decide_eq_false_iff_not]
  constructor
  · rintro ⟨h, k⟩; exact ⟨by omega, k⟩
  · rintro ⟨h, k⟩; exact ⟨by omega, k⟩
/-- into the box -/
def clp (S : List Pt) (a : Pt) : Pt := (max (minX S - 1) (min (maxX S + 1) a.1), max (minY S - 1) (min (maxY S + 1) a.2))
theorem clp_mem (hn : S ≠ []) {a : Pt} (ha : a ∉ S) : clp S a ∈ boxE S := by
  obtain ⟨d, hd⟩ := List.exists_mem_of_ne_nil _ hn
  have h1 := minX_le hd; have h2 := maxX_ge hd; have h3 := minY_le hd; have h4 := maxY_ge hd
  rw [box_mem hn]
  refine ⟨by unfold clp; dsimp only; omega, fun z => ?_⟩
  have k1 := minX_le z; have k2 := maxX_ge z; have k3 := minY_le z; have k4 := maxY_ge z
  apply ha
  have : clp S a = a := by
    rw [pt_eq]
    unfold clp at k1 k2 k3 k4 ⊢
    dsimp only at k1 k2 k3 k4 ⊢
    omega
  rw [← this]; exact z
theorem cl_up (lo hi x : Int) : max lo (min hi (x + 1)) = max lo (min hi x) ∨ max lo (min hi (x + 1)) = max lo (min hi x) + 1 := by omega
theorem cl_dn (lo hi x : Int) : max lo (min hi (x - 1)) = max lo (min hi x) ∨ max lo (min hi (x - 1)) = max lo (min hi x) - 1 := by omega
theorem clp_step {a n : Pt} (h : n ∈ around4 a) : clp S n = clp S a ∨ clp S n ∈ around4 (clp S a) := by
  rw [mem4'] at h ⊢
  rw [pt_eq]
  unfold clp
  dsimp only
  rcases h with ⟨e1, e2⟩ | ⟨e1, e2⟩ | ⟨e1, e2⟩ | ⟨e1, e2⟩
  · rw [e1, e2]
    rcases cl_up (minX S - 1) (maxX S + 1) a.1 with e | e
    · exact .inl ⟨e, rfl⟩
    · exact .inr (.inl ⟨e, rfl⟩)
  · rw [e1, e2]
    rcases cl_up (minY S - 1) (maxY S + 1) a.2 with e | e
    · exact .inl ⟨rfl, e⟩
    · exact .inr (.inr (.inl ⟨rfl, e⟩))
  · rw [e1, e2]
    rcases cl_dn (minX S - 1) (maxX S + 1) a.1 with e | e
    · exact .inl ⟨e, rfl⟩
    · exact .inr (.inr (.inr (.inl ⟨e, rfl⟩)))
  · rw [e1, e2]
    rcases cl_dn (minY S - 1) (maxY S + 1) a.2 with e | e
    · exact .inl ⟨rfl, e⟩
    · exact .inr (.inr (.inr (.inr ⟨rfl, e⟩)))
theorem clp_way (hn : S ≠ []) {a b : Pt} (w : Way S a b) : Conn (boxE S) (clp S a) (clp S b) := by
  induction w with
  | refl => exact .refl
  | step _ h1 h2 ih =>
    rcases clp_step (S := S) h1 with e | e
    · rw [e]; exact ih
    · exact .step ih e (clp_mem hn h2)
theorem Good.hole (g : Good S) (hn : S ≠ []) : ∀ e ∈ boxE S, Conn (boxE S) e (minX S - 1, minY S - 1) := by
  intro e he
  obtain ⟨d, hd⟩ := List.exists_mem_of_ne_nil _ hn
  have h1 := minX_le hd; have h2 := maxX_ge hd; have h3 := minY_le hd; have h4 := maxY_ge hd
  have hb := (box_mem hn).mp he
  obtain ⟨b, w, hab⟩ := g.esc e hb.2
  have k := clp_way hn w
  have ee : clp S e = e := by rw [pt_eq]; unfold clp; dsimp only; omega
  rw [ee] at k
  have hbY : maxY S < b.2 := by
    have hm := maxL_mem' (ns := S.map Prod.snd) (by simpa using hn)
    obtain ⟨q, hq, eq⟩ := List.mem_map.mp hm
    have := hab q hq
    unfold maxY; rw [← eq]; exact this
  have hx1 : minX S - 1 ≤ (clp S b).1 := by unfold clp; dsimp only; omega
  have hx2 : (clp S b).1 ≤ maxX S + 1 := by unfold clp; dsimp only; omega
  have hy : (clp S b).2 = maxY S + 1 := by unfold clp; dsimp only; omega
  generalize clp S b = t at k hx1 hx2 hy
  have west : ∀ n : Nat, minX S - 1 ≤ t.1 - (n : Int) → Conn (boxE S) t (t.1 - (n : Int), maxY S + 1) := fun n => by
    induction n with
    | zero => intro _; rw [show (t.1 - ((0 : Nat) : Int), maxY S + 1) = t from pt_eq.mpr ⟨by dsimp only; omega, hy.symm⟩]; exact .refl
    | succ n ih =>
      intro h
      refine .step (ih (by omega)) (by rw [mem4']; dsimp only; omega) ?_
      rw [box_mem hn]
      exact ⟨by dsimp only; omega, fun z => by have := maxY_ge z; dsimp only at this; omega⟩
  have k2 := west (t.1 - (minX S - 1)).toNat (by omega)
  rw [show (t.1 - ((t.1 - (minX S - 1)).toNat : Int), maxY S + 1) = (minX S - 1, maxY S + 1) from pt_eq.mpr ⟨by dsimp only; omega, rfl⟩] at k2
  have south : ∀ n : Nat, minY S - 1 ≤ maxY S + 1 - (n : Int) → Conn (boxE S) (minX S - 1, maxY S + 1) (minX S - 1, maxY S + 1 - (n : Int)) := fun n => by
    induction n with
    | zero => intro _; rw [show maxY S + 1 - ((0 : Nat) : Int) = maxY S + 1 by omega]; exact .refl
    | succ n ih =>
      intro h
      refine .step (ih (by omega)) (by rw [mem4']; dsimp only; omega) ?_
      rw [box_mem hn]
      exact ⟨by dsimp only; omega, fun z => by have := minX_le z; dsimp only at this; omega⟩
  have k3 := south (maxY S + 1 - (minY S - 1)).toNat (by omega)
  rw [show maxY S + 1 - (((maxY S + 1 - (minY S - 1)).toNat : Nat) : Int) = minY S - 1 by omega] at k3
  exact (k.trans k2).trans k3
theorem head_mem {T : List Pt} (h : T ≠ []) : T.headD (0, 0) ∈ T := by
  cases T with
  | nil => exact absurd rfl h
  | cons a T => simp
theorem Good.piece (g : Good S) (hn : S ≠ []) (hl : S.length ≤ 10) : Piece S := by
  obtain ⟨d, hd⟩ := List.exists_mem_of_ne_nil _ hn
  have h1 := minX_le hd; have h2 := maxX_ge hd; have h3 := minY_le hd; have h4 := maxY_ge hd
  have zm : (minX S - 1, minY S - 1) ∈ boxE S := by
    rw [box_mem hn]
    exact ⟨by dsimp only; omega, fun z => by have := minX_le z; dsimp only at this; omega⟩
  have bne : boxE S ≠ [] := List.ne_nil_of_mem zm
  have hm := head_mem bne
  have hh := g.hole hn
  refine ⟨hn, hl, cutOff_none fun c hc => g.con _ (head_mem hn) c hc, ?_, bne, cutOff_none fun c hc => (hh _ hm).trans (Conn.symm hc (hh c hc))⟩
  obtain ⟨a, ha, ea⟩ := List.mem_map.mp (maxL_mem' (ns := S.map Prod.fst) (by simpa using hn))
  obtain ⟨b, hb, eb⟩ := List.mem_map.mp (minL_mem' (ns := S.map Prod.fst) (by simpa using hn))
  obtain ⟨a', ha', ea'⟩ := List.mem_map.mp (maxL_mem' (ns := S.map Prod.snd) (by simpa using hn))
  obtain ⟨b', hb', eb'⟩ := List.mem_map.mp (minL_mem' (ns := S.map Prod.snd) (by simpa using hn))
  have q1 := g.bnd a ha b hb
  have q2 := g.bnd a' ha' b' hb'
  have hw : wid S ≤ 21 := by unfold wid maxX minX; rw [← ea, ← eb]; omega
  have hh' : hei S ≤ 21 := by unfold hei maxY minY; rw [← ea', ← eb']; omega
  exact Nat.le_trans (Nat.mul_le_mul hh' hw) (by decide)
end
/-! ### each once, in order -/
theorem leP_refl (a : Pt) : leP a a := by unfold leP; rw [ltc_false]; omega
theorem foldl_uniq : ∀ (ps acc : List Pt), ps.Pairwise leP → acc.Pairwise leP → acc.Nodup → (∀ a ∈ acc, ∀ p ∈ ps, leP a p) →
    (ps.foldl ustep acc).Pairwise leP ∧ (ps.foldl ustep acc).Nodup ∧ ∀ x, x ∈ ps.foldl ustep acc ↔ x ∈ acc ∨ x ∈ ps
  | [], acc, _, h2, h3, _ => ⟨h2, h3, fun x => by simp⟩
  | p :: ps, acc, h1, h2, h3, h4 => by
    rw [List.foldl_cons]
    obtain ⟨hp, hps⟩ := List.pairwise_cons.mp h1
    by_cases e : acc.getLast? = some p
    · rw [show ustep acc p = acc from if_pos e]
      obtain ⟨k1, k2, k3⟩ := foldl_uniq ps acc hps h2 h3 fun a ha q hq => h4 a ha q (List.mem_cons_of_mem _ hq)
      refine ⟨k1, k2, fun x => ?_⟩
      rw [k3, List.mem_cons]
      have hm : p ∈ acc := List.mem_of_getLast? e
      constructor
      · rintro (z | z)
        · exact .inl z
        · exact .inr (.inr z)
      · rintro (z | z | z)
        · exact .inl z
        · exact .inl (z ▸ hm)
        · exact .inr z
    · rw [show ustep acc p = acc ++ [p] from if_neg e]
      have hn : p ∉ acc := fun z => by
        rcases List.eq_nil_or_concat acc with hz | ⟨ys, l, rfl⟩
        · rw [hz] at z; cases z
        · rw [List.concat_eq_append] at z h2 h4 e
          have hlp : leP l p := h4 l (by simp) p (by simp)
          have hpl : leP p l := by
            rcases List.mem_append.mp z with z | z
            · exact (List.pairwise_append.mp h2).2.2 p z l (by simp)
            · rw [List.mem_singleton.mp z]; exact leP_refl l
          exact e (by rw [leP_antisymm hlp hpl]; simp)
      obtain ⟨k1, k2, k3⟩ := foldl_uniq ps (acc ++ [p]) hps
        (List.pairwise_append.mpr ⟨h2, by simp, fun a ha b hb => by rw [List.mem_singleton.mp hb]; exact h4 a ha p (by simp)⟩)
        (List.nodup_append.mpr ⟨h3, by simp, fun a ha b hb => by rw [List.mem_singleton.mp hb]; exact fun z => hn (z ▸ ha)⟩)
        fun a ha q hq => by
          rcases List.mem_append.mp ha with ha | ha
          · exact h4 a ha q (List.mem_cons_of_mem _ hq)
          · rw [List.mem_singleton.mp ha]; exact hp q hq
      refine ⟨k1, k2, fun x => ?_⟩
      rw [k3, List.mem_append, List.mem_singleton, List.mem_cons, or_assoc]
theorem uniq_isort {hs cs : List Pt} (nd : cs.Nodup) (hm : ∀ x, x ∈ hs ↔ x ∈ cs) : uniq (isort hs) = isort cs := by
  obtain ⟨k1, k2, k3⟩ := foldl_uniq (isort hs) [] (isort_sorted hs) List.Pairwise.nil List.nodup_nil (fun a ha => by cases ha)
  have n2 : (isort cs).Nodup := (isort_perm cs).nodup_iff.mpr nd
  refine sorted_unique ((List.perm_ext_iff_of_nodup k2 n2).mpr fun x => ?_) k1 (isort_sorted cs)
  rw [k3, (isort_perm hs).mem_iff, (isort_perm cs).mem_iff, hm]
  simp
/-! ### turned round at a place -/
theorem cut_rot {α : Type} (xs : List α) {c : Int} (h0 : 0 ≤ c) (h1 : c < xs.length) : cut3 xs (some c) none = xs.drop c.toNat ∧ cut3 xs none (some c) = xs.take c.toNat := by
  unfold cut3 HT.sIx
  dsimp only
  rw [if_neg (by omega), Nat.min_eq_left (by omega), List.drop_zero, Nat.sub_zero, List.take_of_length_le (by rw [List.length_drop]; omega)]
  exact ⟨rfl, rfl⟩
theorem mem_rot {xs : List Pt} {n : Nat} (x : Pt) : x ∈ xs.drop n ++ xs.take n ↔ x ∈ xs := by
  rw [List.mem_append, or_comm, ← List.mem_append, List.take_append_drop]
theorem mem_ins {xs : List Pt} {n : Nat} {y x : Pt} : x ∈ xs.take n ++ y :: xs.drop n ↔ x = y ∨ x ∈ xs := by
  rw [List.mem_append, List.mem_cons]
  constructor
  · rintro (z | z | z)
    · exact .inr (List.mem_of_mem_take z)
    · exact .inl z
    · exact .inr (List.mem_of_mem_drop z)
  · rintro (z | z)
    · exact .inr (.inl z)
    · rw [← List.take_append_drop n xs, List.mem_append] at z
      rcases z with z | z
      · exact .inl z
      · exact .inr (.inr z)
theorem moved_piece {gs : List Pt} {x y : Int} (g : Grn gs) (hl : gs.length ≤ 10) : Piece (isort (gs.map fun q => (q.1 + x, q.2 + y))) ∧ (gs.map fun q => (q.1 + x, q.2 + y)).Nodup := by
  have e : (gs.map fun q => (q.1 + x, q.2 + y)) = gs.map (mvP (x, y)) := rfl
  rw [e]
  have hne : gs ≠ [] := List.ne_nil_of_mem g.z
  refine ⟨Good.piece (Good.congr (fun z => (isort_perm _).mem_iff.symm) ((g.good hl).mv (x, y))) ?_ ?_, ?_⟩
  · intro z
    have := isort_len (gs.map (mvP (x, y)))
    rw [z, List.length_map] at this
    exact hne (List.eq_nil_of_length_eq_zero this.symm)
  · rw [isort_len, List.length_map]; exact hl
  · exact List.Pairwise.map _ (fun a b hab z => hab (by rw [← mv_back (x, y) a, z, mv_back])) g.nd
def sp_law : Sp3 := fun ds H Q => match ds with
  | [.fl xs] => (match intsOf xs with
    | some ns => ns.length ≤ 63 ∧ ∀ H' : Hp3, Q (.bl true) H'
    | none => False)
  | _ => False
theorem begin_law {ns : List Int} (h : ns.length ≤ 63) : sp_law [.fl (ns.map D.int)] (fun _ => none) (fun d _ => d = .bl true) := by
  simp only [sp_law, intsOf_map]
  exact ⟨h, fun _ => trivial⟩
theorem len_law : ∀ (ds : List D) (H : Hp3) (Q : VK3), sp_law ds H Q → ds.length = P_law.length := by
  intro ds H Q h
  unfold sp_law at h
  split at h
  · rfl
  · exact h.elim

def lp_law_0 : TS3 := fo3 (il3 (sl3 r3sl (v3 0) (pt3 (c3 (.int 4))) (pt3 (c3 (.int 24))))) (gn3 7) (is3 (ts3 (o3 r3eq (o3 i3mod (v3 7) (c3 (.int 3))) (c3 (.int 1)))) (dr3 (m3 r3ins (v3 6) (cons3 (o3 i3mod (o3 i3div (v3 7) (c3 (.int 3))) (cb3 r3len (cons3 (v3 6) nil3))) (cons3 (o3 r3ix (v3 4) (o3 i3mod (o3 i3div (v3 7) (c3 (.int 7))) (cb3 r3len (cons3 (v3 4) nil3)))) nil3)))) nx3)
def t_law : TS3 := (sq3 (st3 1 (cb3 sp_l_grown (cons3 (v3 0) (cons3 (c3 (.int 4)) (cons3 (o3 r3add (c3 (.int 1)) (o3 i3mod (cb3 sp_l_cell_at (cons3 (v3 0) (cons3 (c3 (.int 0)) nil3))) (c3 (.int 10)))) nil3)))))
    (sq3 (st3 2 (cb3 sp_l_far (cons3 (cb3 sp_l_cell_at (cons3 (v3 0) (cons3 (c3 (.int 1)) nil3))) nil3)))
    (sq3 (st3 3 (cb3 sp_l_far (cons3 (cb3 sp_l_cell_at (cons3 (v3 0) (cons3 (c3 (.int 2)) nil3))) nil3)))
    (sq3 (st3 4 (cp3 (il3 (v3 1)) (gn3 0) yes3 (tp3 (cons3 (o3 r3add (o3 r3ix (v3 0) (c3 (.int 0))) (v3 1)) (cons3 (o3 r3add (o3 r3ix (v3 0) (c3 (.int 1))) (v3 2)) nil3))) ["_law_cell"] [(2, "_law_x"), (3, "_law_y")]))
    (sq3 (st3 5 (o3 i3mod (cb3 sp_l_cell_at (cons3 (v3 0) (cons3 (c3 (.int 3)) nil3))) (cb3 r3len (cons3 (v3 4) nil3))))
    (sq3 (st3 6 (o3 r3add (sl3 r3sl (v3 4) (pt3 (v3 5)) np3) (sl3 r3sl (v3 4) np3 (pt3 (v3 5)))))
    (sq3 lp_law_0
    (sq3 (st3 8 (cb3 r3list (cons3 (v3 6) nil3)))
    (sq3 (st3 9 (cb3 sp_piece_of (cons3 (v3 8) nil3)))
    (sq3 (is3 (or3 (no3 (ts3 (cb3 sp_l_is_piece (cons3 (v3 9) (cons3 (cb3 sp_l_sorted (cons3 (v3 4) nil3)) nil3))))) (ts3 (o3 r3ne (v3 8) (v3 6)))) (rt3 (c3 (.bl false))) nx3)
    (rt3 (cb3 sp_l_is_piece (cons3 (cb3 sp_piece_of (cons3 (cb3 r3list (cons3 (v3 9) nil3)) nil3)) (cons3 (cb3 sp_l_sorted (cons3 (v3 4) nil3)) nil3))))))))))))))
theorem rd_law : ∀ (ds : List D) (H : Hp3) (Q : VK3), sp_law ds H Q → t_law (fin3 Q) (start3 N_law ds) H := by
  intro ds H Q h
  unfold sp_law at h
  split at h
  case h_2 => exact h.elim
  rename_i xs
  split at h
  case h_2 => exact h.elim
  rename_i ns e
  have e' := intsOf_inv e
  subst e'
  obtain ⟨hl, h⟩ := h
  simp only [t_law, start3, N_law, List.map_cons, List.map_nil, List.length_cons, List.length_nil, Nat.reduceAdd, Nat.reduceSub, Nat.zero_add, List.replicate, List.cons_append, List.nil_append]
  walk_at "l3"
  refine u_l_grown ⟨by decide, by decide⟩ ⟨by omega, by omega⟩ fun p1 hp1 => ?_
  have hgl : (grown ns 4 (1 + ns.getD (Int.toNat 0) 0 % 10)).length ≤ 10 := by
    have := gr_most ns 4 (1 + ns.getD (Int.toNat 0) 0 % 10) (3 * (1 + ns.getD (Int.toNat 0) 0 % 10)).toNat
    unfold grown; omega
  have hgg : Grn (grown ns 4 (1 + ns.getD (Int.toNat 0) 0 % 10)) := gr_grn _ _ _ _
  generalize grown ns 4 (1 + ns.getD (Int.toNat 0) 0 % 10) = gs at hgl hgg
  walk_at "l3"
  generalize far (ns.getD (Int.toNat 1) 0) = x
  generalize far (ns.getD (Int.toNat 2) 0) = y
  refine Cp.mapP (fun q => (q.1 + x, q.2 + y)) (fun H2 hs => hs _ _ upd3_same) (by omega) ?_ ?_
  · intro i q hq R H2 hs hR
    unfold prP
    walk_at "l3"
    exact hR H2 Sub3.refl
  intro p2 hp2
  obtain ⟨hpc, hnd⟩ := moved_piece (x := x) (y := y) hgg hgl
  have hcl : (gs.map fun q => (q.1 + x, q.2 + y)).length ≤ 10 := by rw [List.length_map]; exact hgl
  have hcn : (gs.map fun q => (q.1 + x, q.2 + y)) ≠ [] := fun z => List.ne_nil_of_mem hgg.z (List.map_eq_nil_iff.mp z)
  generalize (gs.map fun q => (q.1 + x, q.2 + y)) = cs at hpc hnd hcl hcn
  have hc0 : 0 < cs.length := List.length_pos_iff.mpr hcn
  have hc0' : (0 : Int) < ((cs.map prP).length : Int) := by rw [List.length_map]; omega
  walk_at "l3"
  rw [List.length_map]
  have u0 : 0 ≤ ns.getD (Int.toNat 3) 0 % (cs.length : Int) := Int.emod_nonneg _ (by omega)
  have u1 : ns.getD (Int.toNat 3) 0 % (cs.length : Int) < cs.length := Int.emod_lt_of_pos _ (by omega)
  generalize ns.getD (Int.toNat 3) 0 % (cs.length : Int) = cu at u0 u1
  walk_at "l3"
  obtain ⟨r1, r2⟩ := cut_rot cs u0 u1
  intro p3 hp3
  rw [cut3_map, r1]
  walk_at "l3"
  intro p4 hp4
  rw [cut3_map, r2]
  walk_at "l3"
  refine g_cat (by walk_at "l3h") (by walk_at "l3h") (Nat.le_of_lt (small1000' (by rw [List.length_map, List.length_map, List.length_drop, List.length_take]; omega))) fun p5 hp5 => ?_
  rw [← List.map_append]
  have hrl : (cs.drop cu.toNat ++ cs.take cu.toNat).length ≤ 10 := by rw [List.length_append, List.length_drop, List.length_take]; omega
  have hrm : ∀ z, z ∈ cs.drop cu.toNat ++ cs.take cu.toNat ↔ z ∈ cs := mem_rot
  have hb2 : upd3 (upd3 (upd3 (upd3 H p1 (.lst (gs.map prP))) p2 (.lst (cs.map prP))) p3 (.lst ((cs.drop cu.toNat).map prP))) p4 (.lst ((cs.take cu.toNat).map prP)) p2 = some (.lst (cs.map prP)) := by walk_at "l3h"
  revert hp5 hb2
  generalize upd3 (upd3 (upd3 (upd3 H p1 (.lst (gs.map prP))) p2 (.lst (cs.map prP))) p3 (.lst ((cs.drop cu.toNat).map prP))) p4 (.lst ((cs.take cu.toNat).map prP)) = H0
  generalize cs.drop cu.toNat ++ cs.take cu.toNat = some0 at hrl hrm
  intro hp5 hb2
  walk_at "l3"
  unfold lp_law_0
  walk_at "l3"
  intro p6 hp6
  walk_at "l3"
  rw [cut3_map]
  have hsl : (cut3 ns (some 4) (some 24)).length ≤ 20 := by unfold cut3 HT.sIx; rw [List.length_take, List.length_drop]; dsimp only; rw [if_neg (by decide), if_neg (by decide)]; omega
  have n56 : p5 ≠ p6 := fun z => by rw [← z, upd3_same] at hp6; cases hp6
  have n25 : p2 ≠ p5 := ne3 hb2 hp5
  have n26 : p2 ≠ p6 := ne3 (upd3_old hb2 hp5) hp6
  generalize cut3 ns (some 4) (some 24) = ks at hsl
  refine Lp.by (fun i σ H2 => ∃ zs : List Pt, (zs.length ≤ 10 + i ∧ ∀ z, z ∈ zs ↔ z ∈ cs) ∧ H2 p5 = some (.lst (zs.map prP)) ∧ H2 p2 = some (.lst (cs.map prP)) ∧ H2 p6 = some (.lst (ks.map D.int)) ∧ ∃ c, σ = [some (.fl (ns.map D.int)), some (.ref p1), some (.int x), some (.int y), some (.ref p2), some (.int cu), some (.ref p5), c, none, none]) ⟨some0, ⟨hrl, hrm⟩, upd3_old upd3_same hp6, upd3_old (upd3_old hb2 hp5) hp6, upd3_same, _, rfl⟩ (fun i σ H2 _ z => by obtain ⟨_, _, _, _, z, _⟩ := z; exact z) ?_ ?_
  · rintro i d σ H2 hd ⟨zs, ⟨zl, zm⟩, h5, h2, h6, c0, rfl⟩
    rw [List.getElem?_map] at hd
    obtain ⟨c, hc, rfl⟩ := Option.map_eq_some_iff.mp hd
    have hi : i < ks.length := (List.getElem?_eq_some_iff.mp hc).1
    have hzn : zs ≠ [] := fun z => by
      obtain ⟨q, hq⟩ := List.exists_mem_of_ne_nil _ hcn
      have := (zm q).mpr hq
      rw [z] at this; cases this
    have hz0 : 0 < zs.length := List.length_pos_iff.mpr hzn
    have hz0' : (0 : Int) < ((zs.map prP).length : Int) := by rw [List.length_map]; omega
    walk_at "l3"
    refine ifD (fun hm => ?_) fun hm => ?_
    · walk_at "l3"
      rw [List.length_map, List.length_map]
      have v0 : 0 ≤ c / 7 % (cs.length : Int) := Int.emod_nonneg _ (by omega)
      have v1 : (c / 7 % (cs.length : Int)).toNat < cs.length := by have := Int.emod_lt_of_pos (c / 7) (show (0 : Int) < cs.length by omega); omega
      refine g_ixL h2 (atI_map v0 v1) ?_
      walk_at "l3"
      have w0 : 0 ≤ c / 3 % (zs.length : Int) := Int.emod_nonneg _ (by omega)
      have w1 : c / 3 % (zs.length : Int) < zs.length := Int.emod_lt_of_pos _ (by omega)
      refine g_ins h5 ⟨w0, by rw [List.length_map]; omega⟩ (by rw [List.length_map]; omega) ?_
      walk_at "l3"
      refine ⟨zs.take (c / 3 % (zs.length : Int)).toNat ++ cs[(c / 7 % (cs.length : Int)).toNat] :: zs.drop (c / 3 % (zs.length : Int)).toNat, ⟨?_, fun z => ?_⟩, ?_, ?_, ?_, _, rfl⟩
      · rw [List.length_append, List.length_cons, List.length_take, List.length_drop]; omega
      · rw [mem_ins, zm]
        constructor
        · rintro (z | z)
          · rw [z]; exact List.getElem_mem v1
          · exact z
        · exact .inr
      · rw [upd3_same, List.map_append, List.map_cons, List.map_take, List.map_drop]
      · rw [upd3_ne n25]; exact h2
      · rw [upd3_ne (Ne.symm n56)]; exact h6
    · walk_at "l3"
      exact ⟨zs, ⟨by omega, zm⟩, h5, h2, h6, _, rfl⟩
  · rintro σ H2 ⟨zs, ⟨zl, zm⟩, h5, h2, -, c0, rfl⟩
    rw [List.length_map] at zl
    have e1 := uniq_isort hnd zm
    have e2 : uniq (isort (isort cs)) = isort cs := uniq_isort hnd fun z => (isort_perm cs).mem_iff
    walk_at "l3"
    intro p7 hp7
    walk_at "l3"
    refine u_piece_of (ps := zs) (by walk_at "l3h") (by omega) (by rw [e1]; exact hpc) ?_
    rw [e1]
    walk_at "l3"
    refine u_l_sorted (ps := cs) (by walk_at "l3h") (by omega) fun p8 hp8 => ?_
    walk_at "l3"
    refine u_l_is_piece (seq_ref upd3_same) (by rw [isort_len]; omega) ?_
    walk_at "l3"
    refine ifX rfl ?_
    walk_at "l3"
    refine g_neL (ps := zs) (qs := zs) (by walk_at "l3h") (by walk_at "l3h") ?_
    walk_at "l3"
    refine ifN (fun z => absurd rfl z) fun _ => ?_
    walk_at "l3"
    intro p9 hp9
    walk_at "l3"
    refine u_piece_of (ps := isort cs) (by walk_at "l3h") (by rw [isort_len]; omega) (by rw [e2]; exact hpc) ?_
    rw [e2]
    walk_at "l3"
    refine u_l_sorted (ps := cs) (by walk_at "l3h") (by omega) fun p10 hp10 => ?_
    walk_at "l3"
    refine u_l_is_piece (seq_ref upd3_same) (by rw [isort_len]; omega) ?_
    walk_at "l3"
    exact g_fin (h _) Sub3.refl

def top (i : Nat) : Stmt := PySem.Challenge.pw_borderfloor_k03_pieces_made.main.body.getD i (.Pass ⟨0, 0, 0, 0⟩)
abbrev s_rank_of : Stmt := top 1
abbrev s_in_order : Stmt := top 2
abbrev s_around : Stmt := top 3
abbrev s_unlike_in_order : Stmt := top 12
abbrev s_reached_within : Stmt := top 13
abbrev s_first_cut_off : Stmt := top 14
abbrev s_empty_in_box : Stmt := top 15
abbrev s_piece_of : Stmt := top 16
abbrev s_l_cell_at : Stmt := top 18
abbrev s_l_mix : Stmt := top 19
abbrev s_l_whole : Stmt := top 20
abbrev s_l_is_pair : Stmt := top 21
abbrev s_l_is_piece : Stmt := top 22
abbrev s_l_sorted : Stmt := top 23
abbrev s_l_beside : Stmt := top 24
abbrev s_l_shuts_in : Stmt := top 25
abbrev s_l_grown : Stmt := top 26
abbrev s_l_far : Stmt := top 27
abbrev s_law : Stmt := top 28
theorem sc_rank_of : FnScope N_rank_of P_rank_of (defScope s_rank_of) := ⟨rfl, rfl, rfl, by decide +kernel, rfl, by decide +kernel, by decide +kernel⟩
theorem sc_in_order : FnScope N_in_order P_in_order (defScope s_in_order) := ⟨rfl, rfl, rfl, by decide +kernel, rfl, by decide +kernel, by decide +kernel⟩
theorem sc_around : FnScope N_around P_around (defScope s_around) := ⟨rfl, rfl, rfl, by decide +kernel, rfl, by decide +kernel, by decide +kernel⟩
theorem sc_unlike_in_order : FnScope N_unlike_in_order P_unlike_in_order (defScope s_unlike_in_order) := ⟨rfl, rfl, rfl, by decide +kernel, rfl, by decide +kernel, by decide +kernel⟩
theorem sc_reached_within : FnScope N_reached_within P_reached_within (defScope s_reached_within) := ⟨rfl, rfl, rfl, by decide +kernel, rfl, by decide +kernel, by decide +kernel⟩
theorem sc_first_cut_off : FnScope N_first_cut_off P_first_cut_off (defScope s_first_cut_off) := ⟨rfl, rfl, rfl, by decide +kernel, rfl, by decide +kernel, by decide +kernel⟩
theorem sc_empty_in_box : FnScope N_empty_in_box P_empty_in_box (defScope s_empty_in_box) := ⟨rfl, rfl, rfl, by decide +kernel, rfl, by decide +kernel, by decide +kernel⟩
theorem sc_piece_of : FnScope N_piece_of P_piece_of (defScope s_piece_of) := ⟨rfl, rfl, rfl, by decide +kernel, rfl, by decide +kernel, by decide +kernel⟩
theorem sc_l_cell_at : FnScope N_l_cell_at P_l_cell_at (defScope s_l_cell_at) := ⟨rfl, rfl, rfl, by decide +kernel, rfl, by decide +kernel, by decide +kernel⟩
theorem sc_l_mix : FnScope N_l_mix P_l_mix (defScope s_l_mix) := ⟨rfl, rfl, rfl, by decide +kernel, rfl, by decide +kernel, by decide +kernel⟩
theorem sc_l_whole : FnScope N_l_whole P_l_whole (defScope s_l_whole) := ⟨rfl, rfl, rfl, by decide +kernel, rfl, by decide +kernel, by decide +kernel⟩
theorem sc_l_is_pair : FnScope N_l_is_pair P_l_is_pair (defScope s_l_is_pair) := ⟨rfl, rfl, rfl, by decide +kernel, rfl, by decide +kernel, by decide +kernel⟩
theorem sc_l_is_piece : FnScope N_l_is_piece P_l_is_piece (defScope s_l_is_piece) := ⟨rfl, rfl, rfl, by decide +kernel, rfl, by decide +kernel, by decide +kernel⟩
theorem sc_l_sorted : FnScope N_l_sorted P_l_sorted (defScope s_l_sorted) := ⟨rfl, rfl, rfl, by decide +kernel, rfl, by decide +kernel, by decide +kernel⟩
theorem sc_l_beside : FnScope N_l_beside P_l_beside (defScope s_l_beside) := ⟨rfl, rfl, rfl, by decide +kernel, rfl, by decide +kernel, by decide +kernel⟩
theorem sc_l_shuts_in : FnScope N_l_shuts_in P_l_shuts_in (defScope s_l_shuts_in) := ⟨rfl, rfl, rfl, by decide +kernel, rfl, by decide +kernel, by decide +kernel⟩
theorem sc_l_grown : FnScope N_l_grown P_l_grown (defScope s_l_grown) := ⟨rfl, rfl, rfl, by decide +kernel, rfl, by decide +kernel, by decide +kernel⟩
theorem sc_l_far : FnScope N_l_far P_l_far (defScope s_l_far) := ⟨rfl, rfl, rfl, by decide +kernel, rfl, by decide +kernel, by decide +kernel⟩
theorem sc_law : FnScope N_law P_law (defScope s_law) := ⟨rfl, rfl, rfl, by decide +kernel, rfl, by decide +kernel, by decide +kernel⟩
structure Tx (K : PySem.W.Frag) (mg : Str → Option Value) : Prop where
  f_rank_of : ∃ f fd, Fun K "rank_of" "rank_of" s_rank_of f fd ∧ mg "rank_of" = some (.ref f) ∧ Binds K fd P_rank_of []
  f_in_order : ∃ f fd, Fun K "in_order" "in_order" s_in_order f fd ∧ mg "in_order" = some (.ref f) ∧ Binds K fd P_in_order []
  f_around : ∃ f fd, Fun K "around" "around" s_around f fd ∧ mg "around" = some (.ref f) ∧ Binds K fd P_around []
  f_unlike_in_order : ∃ f fd, Fun K "unlike_in_order" "unlike_in_order" s_unlike_in_order f fd ∧ mg "unlike_in_order" = some (.ref f) ∧ Binds K fd P_unlike_in_order []
  f_reached_within : ∃ f fd, Fun K "reached_within" "reached_within" s_reached_within f fd ∧ mg "reached_within" = some (.ref f) ∧ Binds K fd P_reached_within []
  f_first_cut_off : ∃ f fd, Fun K "first_cut_off" "first_cut_off" s_first_cut_off f fd ∧ mg "first_cut_off" = some (.ref f) ∧ Binds K fd P_first_cut_off []
  f_empty_in_box : ∃ f fd, Fun K "empty_in_box" "empty_in_box" s_empty_in_box f fd ∧ mg "empty_in_box" = some (.ref f) ∧ Binds K fd P_empty_in_box []
  f_piece_of : ∃ f fd, Fun K "piece_of" "piece_of" s_piece_of f fd ∧ mg "piece_of" = some (.ref f) ∧ Binds K fd P_piece_of []
  f_l_cell_at : ∃ f fd, Fun K "_law_cell_at" "_law_cell_at" s_l_cell_at f fd ∧ mg "_law_cell_at" = some (.ref f) ∧ Binds K fd P_l_cell_at []
  f_l_mix : ∃ f fd, Fun K "_law_mix" "_law_mix" s_l_mix f fd ∧ mg "_law_mix" = some (.ref f) ∧ Binds K fd P_l_mix []
  f_l_whole : ∃ f fd, Fun K "_law_whole" "_law_whole" s_l_whole f fd ∧ mg "_law_whole" = some (.ref f) ∧ Binds K fd P_l_whole []
  f_l_is_pair : ∃ f fd, Fun K "_law_is_pair" "_law_is_pair" s_l_is_pair f fd ∧ mg "_law_is_pair" = some (.ref f) ∧ Binds K fd P_l_is_pair []
  f_l_is_piece : ∃ f fd, Fun K "_law_is_piece" "_law_is_piece" s_l_is_piece f fd ∧ mg "_law_is_piece" = some (.ref f) ∧ Binds K fd P_l_is_piece []
  f_l_sorted : ∃ f fd, Fun K "_law_sorted" "_law_sorted" s_l_sorted f fd ∧ mg "_law_sorted" = some (.ref f) ∧ Binds K fd P_l_sorted []
  f_l_beside : ∃ f fd, Fun K "_law_beside" "_law_beside" s_l_beside f fd ∧ mg "_law_beside" = some (.ref f) ∧ Binds K fd P_l_beside []
  f_l_shuts_in : ∃ f fd, Fun K "_law_shuts_in" "_law_shuts_in" s_l_shuts_in f fd ∧ mg "_law_shuts_in" = some (.ref f) ∧ Binds K fd P_l_shuts_in []
  f_l_grown : ∃ f fd, Fun K "_law_grown" "_law_grown" s_l_grown f fd ∧ mg "_law_grown" = some (.ref f) ∧ Binds K fd P_l_grown []
  f_l_far : ∃ f fd, Fun K "_law_far" "_law_far" s_l_far f fd ∧ mg "_law_far" = some (.ref f) ∧ Binds K fd P_l_far []
  m_bool : mg "bool" = none
  m_dict : mg "dict" = none
  m_int : mg "int" = none
  m_isinstance : mg "isinstance" = none
  m_len : mg "len" = none
  m_list : mg "list" = none
  m_max : mg "max" = none
  m_min : mg "min" = none
  m_range : mg "range" = none
  m_sorted : mg "sorted" = none
  m_tuple : mg "tuple" = none
  c_MOST_CELLS : ∃ tk, mg "MOST_CELLS" = some (.int 10 tk)
section
variable {P : Program} {w : World} {K : PySem.W.Frag} {mg : Str → Option Value} {base : Heap}
theorem ok_rank_of (T : Tx K mg) : Fn P w K mg base 1 "rank_of" P_rank_of sp_rank_of := by
  obtain ⟨f, fd, F, hm, hb⟩ := T.f_rank_of
  exact fn3 F sc_rank_of hm hb len_rank_of fun cdv A outer s H E hr => ⟨t_rank_of, (s3_one (s3_ret (p3_tup (a3_cons (p3_ix ix3 (p3_var 0) p3_int) (a3_cons (p3_ix ix3 (p3_var 0) p3_int) a3_nil))))), rd_rank_of⟩

theorem ok_around (T : Tx K mg) : Fn P w K mg base 1 "around" P_around sp_around := by
  obtain ⟨f, fd, F, hm, hb⟩ := T.f_around
  exact fn3 F sc_around hm hb len_around fun cdv A outer s H E hr => ⟨t_around, (s3_cons (s3_set 1 sc_around.nd (p3_ix ix3 (p3_var 0) p3_int))
      (s3_cons (s3_set 2 sc_around.nd (p3_ix ix3 (p3_var 0) p3_int))
      (s3_one (s3_ret (p3_lst (a3_cons (p3_tup (a3_cons (p3_op op3_add (p3_var 1) p3_int) (a3_cons (p3_var 2) a3_nil))) (a3_cons (p3_tup (a3_cons (p3_var 1) (a3_cons (p3_op op3_add (p3_var 2) p3_int) a3_nil))) (a3_cons (p3_tup (a3_cons (p3_op op3_sub (p3_var 1) p3_int) (a3_cons (p3_var 2) a3_nil))) (a3_cons (p3_tup (a3_cons (p3_var 1) (a3_cons (p3_op op3_sub (p3_var 2) p3_int) a3_nil))) a3_nil))))))))), rd_around⟩

theorem ok_empty_in_box (T : Tx K mg) : Fn P w K mg base 1 "empty_in_box" P_empty_in_box sp_empty_in_box := by
  obtain ⟨f, fd, F, hm, hb⟩ := T.f_empty_in_box
  exact fn3 F sc_empty_in_box hm hb len_empty_in_box fun cdv A outer s H E hr => ⟨t_empty_in_box, (s3_cons (s3_setcomp (fv := []) 1 sc_empty_in_box.nd (by show CompOk (defScope s_empty_in_box) N_empty_in_box _ _ _ _; exact ⟨rfl, by decide +kernel, by decide +kernel, by decide +kernel, rfl, by decide +kernel, by decide +kernel⟩) rfl (i3_list (p3_var 0)) (fun pins cl s1 H1 fp => ifs3_nil) (fun pins cl s1 H1 fp => (p3_ix ix3 (p3_var 0) p3_int)))
      (s3_cons (s3_setcomp (fv := []) 2 sc_empty_in_box.nd (by show CompOk (defScope s_empty_in_box) N_empty_in_box _ _ _ _; exact ⟨rfl, by decide +kernel, by decide +kernel, by decide +kernel, rfl, by decide +kernel, by decide +kernel⟩) rfl (i3_list (p3_var 0)) (fun pins cl s1 H1 fp => ifs3_nil) (fun pins cl s1 H1 fp => (p3_ix ix3 (p3_var 0) p3_int)))
      (s3_cons (s3_set 3 sc_empty_in_box.nd (p3_lst a3_nil))
      (s3_cons (s3_for PassesOwn.never rfl (i3_rng2 T.m_range (p3_op op3_sub (p3_callB (cb3_min rfl) rfl T.m_min (by rfl) (a3_cons (p3_var 2) a3_nil)) p3_int) (p3_op op3_add (p3_callB (cb3_max rfl) rfl T.m_max (by rfl) (a3_cons (p3_var 2) a3_nil)) p3_int)) (g3_name 4 sc_empty_in_box.nd) (s3_one (s3_for PassesOwn.never rfl (i3_rng2 T.m_range (p3_op op3_sub (p3_callB (cb3_min rfl) rfl T.m_min (by rfl) (a3_cons (p3_var 1) a3_nil)) p3_int) (p3_op op3_add (p3_callB (cb3_max rfl) rfl T.m_max (by rfl) (a3_cons (p3_var 1) a3_nil)) p3_int)) (g3_name 5 sc_empty_in_box.nd) (s3_one (s3_if (p3_tcmp (op3_notInX hr.units) (p3_tup (a3_cons (p3_var 5) (a3_cons (p3_var 4) a3_nil))) (p3_var 0)) (s3_one (s3_expr (p3_bm PySem.F.slot_list_append PySem.F.type_list_append mt3_app (p3_var 3) (a3_cons (p3_tup (a3_cons (p3_var 5) (a3_cons (p3_var 4) a3_nil))) a3_nil)))) s3_nil)))))
      (s3_one (s3_ret (p3_var 3))))))), rd_empty_in_box⟩

theorem ok_l_cell_at (T : Tx K mg) : Fn P w K mg base 1 "_law_cell_at" P_l_cell_at sp_l_cell_at := by
  obtain ⟨f, fd, F, hm, hb⟩ := T.f_l_cell_at
  exact fn3 F sc_l_cell_at hm hb len_l_cell_at fun cdv A outer s H E hr => ⟨t_l_cell_at, (s3_cons (s3_if (p3_tcmp (op3_lt hr.units0) (p3_var 1) (p3_callB cb3_len rfl T.m_len (by rfl) (a3_cons (p3_var 0) a3_nil))) (s3_one (s3_ret (p3_ix ix3 (p3_var 0) (p3_var 1)))) s3_nil)
      (s3_one (s3_ret p3_int))), rd_l_cell_at⟩

theorem ok_l_whole (T : Tx K mg) : Fn P w K mg base 1 "_law_whole" P_l_whole sp_l_whole := by
  obtain ⟨f, fd, F, hm, hb⟩ := T.f_l_whole
  exact fn3 F sc_l_whole hm hb len_l_whole fun cdv A outer s H E hr => ⟨t_l_whole, (s3_one (s3_ret (p3_and (p3_callB cb3_isi rfl T.m_isinstance (by rfl) (a3_cons (p3_var 0) (a3_cons (p3_ty rfl T.m_int (by rfl)) a3_nil))) (p3_one (p3_not (p3_callB cb3_isi rfl T.m_isinstance (by rfl) (a3_cons (p3_var 0) (a3_cons (p3_ty rfl T.m_bool (by rfl)) a3_nil)))))))), rd_l_whole⟩

theorem ok_l_sorted (T : Tx K mg) : Fn P w K mg base 1 "_law_sorted" P_l_sorted sp_l_sorted := by
  obtain ⟨f, fd, F, hm, hb⟩ := T.f_l_sorted
  exact fn3 F sc_l_sorted hm hb len_l_sorted fun cdv A outer s H E hr => ⟨t_l_sorted, (s3_cons (s3_set 1 sc_l_sorted.nd (p3_lst a3_nil))
      (s3_cons (s3_for PassesOwn.never rfl (i3_list (p3_var 0)) (g3_name 2 sc_l_sorted.nd) (s3_cons (s3_set 3 sc_l_sorted.nd p3_int)
      (s3_cons (s3_while PassesOwn.never (p3_tw (p3_wand (p3_tcmp (op3_lt hr.units0) (p3_var 3) (p3_callB cb3_len rfl T.m_len (by rfl) (a3_cons (p3_var 1) a3_nil))) (p3_wand1 (p3_tcmp (op3_lt hr.units0) (p3_tup (a3_cons (p3_ix ix3 (p3_ix ix3 (p3_var 1) (p3_var 3)) p3_int) (a3_cons (p3_ix ix3 (p3_ix ix3 (p3_var 1) (p3_var 3)) p3_int) a3_nil))) (p3_tup (a3_cons (p3_ix ix3 (p3_var 2) p3_int) (a3_cons (p3_ix ix3 (p3_var 2) p3_int) a3_nil))))))) (s3_one (s3_set 3 sc_l_sorted.nd (p3_op op3_add (p3_var 3) p3_int))))
      (s3_one (s3_expr (p3_bm PySem.F.slot_list_insert PySem.F.type_list_insert mt3_ins (p3_var 1) (a3_cons (p3_var 3) (a3_cons (p3_var 2) a3_nil))))))))
      (s3_one (s3_ret (p3_var 1))))), rd_l_sorted⟩

theorem ok_l_beside (T : Tx K mg) : Fn P w K mg base 1 "_law_beside" P_l_beside sp_l_beside := by
  obtain ⟨f, fd, F, hm, hb⟩ := T.f_l_beside
  exact fn3 F sc_l_beside hm hb len_l_beside fun cdv A outer s H E hr => ⟨t_l_beside, (s3_one (s3_ret (p3_lst (a3_cons (p3_tup (a3_cons (p3_op op3_add (p3_ix ix3 (p3_var 0) p3_int) p3_int) (a3_cons (p3_ix ix3 (p3_var 0) p3_int) a3_nil))) (a3_cons (p3_tup (a3_cons (p3_ix ix3 (p3_var 0) p3_int) (a3_cons (p3_op op3_add (p3_ix ix3 (p3_var 0) p3_int) p3_int) a3_nil))) (a3_cons (p3_tup (a3_cons (p3_op op3_sub (p3_ix ix3 (p3_var 0) p3_int) p3_int) (a3_cons (p3_ix ix3 (p3_var 0) p3_int) a3_nil))) (a3_cons (p3_tup (a3_cons (p3_ix ix3 (p3_var 0) p3_int) (a3_cons (p3_op op3_sub (p3_ix ix3 (p3_var 0) p3_int) p3_int) a3_nil))) a3_nil))))))), rd_l_beside⟩

theorem ok_l_shuts_in (T : Tx K mg) : Fn P w K mg base 1 "_law_shuts_in" P_l_shuts_in sp_l_shuts_in := by
  obtain ⟨f, fd, F, hm, hb⟩ := T.f_l_shuts_in
  exact fn3 F sc_l_shuts_in hm hb len_l_shuts_in fun cdv A outer s H E hr => ⟨t_l_shuts_in, (s3_cons (s3_asg (p3_var 1) (g3_pair 2 3 rfl sc_l_shuts_in.nd))
      (s3_cons (s3_set 4 sc_l_shuts_in.nd (p3_lst (a3_cons (p3_tup (a3_cons (p3_op op3_add (p3_var 2) p3_int) (a3_cons (p3_var 3) a3_nil))) (a3_cons (p3_tup (a3_cons (p3_op op3_add (p3_var 2) p3_int) (a3_cons (p3_op op3_add (p3_var 3) p3_int) a3_nil))) (a3_cons (p3_tup (a3_cons (p3_var 2) (a3_cons (p3_op op3_add (p3_var 3) p3_int) a3_nil))) (a3_cons (p3_tup (a3_cons (p3_op op3_sub (p3_var 2) p3_int) (a3_cons (p3_op op3_add (p3_var 3) p3_int) a3_nil))) a3_nil))))))
      (s3_cons (s3_set 4 sc_l_shuts_in.nd (p3_op op3_add (p3_var 4) (p3_lst (a3_cons (p3_tup (a3_cons (p3_op op3_sub (p3_var 2) p3_int) (a3_cons (p3_var 3) a3_nil))) (a3_cons (p3_tup (a3_cons (p3_op op3_sub (p3_var 2) p3_int) (a3_cons (p3_op op3_sub (p3_var 3) p3_int) a3_nil))) (a3_cons (p3_tup (a3_cons (p3_var 2) (a3_cons (p3_op op3_sub (p3_var 3) p3_int) a3_nil))) (a3_cons (p3_tup (a3_cons (p3_op op3_add (p3_var 2) p3_int) (a3_cons (p3_op op3_sub (p3_var 3) p3_int) a3_nil))) a3_nil)))))))
      (s3_cons (s3_setcomp (fv := [(0, "_law_cells")]) 5 sc_l_shuts_in.nd (by show CompOk (defScope s_l_shuts_in) N_l_shuts_in _ _ _ _; exact ⟨rfl, by decide +kernel, by decide +kernel, by decide +kernel, rfl, by decide +kernel, by decide +kernel⟩) rfl (i3_list (p3_var 4)) (fun pins cl s1 H1 fp => ifs3_nil) (fun pins cl s1 H1 fp => (p3_cmp (op3_notInX hr.units) (p3_var 0) (p3_var 1))))
      (s3_cons (s3_set 6 sc_l_shuts_in.nd p3_int)
      (s3_cons (s3_for PassesOwn.never rfl (i3_list (p3_lst (a3_cons p3_int (a3_cons p3_int (a3_cons p3_int (a3_cons p3_int a3_nil)))))) (g3_name 7 sc_l_shuts_in.nd) (s3_one (s3_if (p3_tw (p3_wand (p3_tval (p3_ix ix3 (p3_var 5) (p3_var 7))) (p3_wand1 (p3_tnot (p3_tw (p3_wand (p3_tval (p3_ix ix3 (p3_var 5) (p3_op op3_sub (p3_var 7) p3_int))) (p3_wand1 (p3_tval (p3_ix ix3 (p3_var 5) (p3_op op3_sub (p3_var 7) p3_int)))))))))) (s3_one (s3_set 6 sc_l_shuts_in.nd (p3_op op3_add (p3_var 6) p3_int))) s3_nil)))
      (s3_one (s3_ret (p3_cmp op3_gt (p3_var 6) p3_int))))))))), rd_l_shuts_in⟩

theorem ok_l_far (T : Tx K mg) : Fn P w K mg base 1 "_law_far" P_l_far sp_l_far := by
  obtain ⟨f, fd, F, hm, hb⟩ := T.f_l_far
  exact fn3 F sc_l_far hm hb len_l_far fun cdv A outer s H E hr => ⟨t_l_far, (s3_cons (s3_if (p3_tcmp (op3_eq hr.units) (p3_op op3_mod (p3_var 0) p3_int) p3_int) (s3_one (s3_ret (p3_op op3_sub (p3_op op3_mod (p3_op op3_fdiv (p3_var 0) p3_int) p3_int) p3_int))) s3_nil)
      (s3_one (s3_ret (p3_op op3_sub (p3_op op3_mod (p3_op op3_mul (p3_op op3_fdiv (p3_var 0) p3_int) p3_int) (p3_op op3_add (p3_op op3_mul p3_int (p3_op op3_pow p3_int p3_int)) p3_int)) (p3_op op3_pow p3_int p3_int))))), rd_l_far⟩

theorem ok_reached_within (T : Tx K mg) : Fn P w K mg base 2 "reached_within" P_reached_within sp_reached_within := by
  obtain ⟨f, fd, F, hm, hb⟩ := T.f_reached_within
  exact fn3 F sc_reached_within hm hb len_reached_within fun cdv A outer s H E hr => ⟨t_reached_within, (s3_cons (s3_set 2 sc_reached_within.nd (p3_callTy (cb3_dict rfl hr.units) rfl T.m_dict (by rfl) (a3_cons (p3_comp (fv := []) (by show CompOk (defScope s_reached_within) N_reached_within _ _ _ _; exact ⟨rfl, by decide +kernel, by decide +kernel, by decide +kernel, rfl, by decide +kernel, by decide +kernel⟩) rfl (i3_list (p3_var 0)) (fun pins cl s1 H1 fp => ifs3_nil) (fun pins cl s1 H1 fp => (p3_tup (a3_cons (p3_var 0) (a3_cons p3_bl a3_nil))))) a3_nil)))
      (s3_cons (s3_set 3 sc_reached_within.nd (p3_disp1 hr.units0 (p3_var 1) p3_bl))
      (s3_cons (s3_set 4 sc_reached_within.nd (p3_lst (a3_cons (p3_var 1) a3_nil)))
      (s3_cons (s3_while PassesOwn.never (p3_tcmp op3_gt (p3_callB cb3_len rfl T.m_len (by rfl) (a3_cons (p3_var 4) a3_nil)) p3_int) (s3_cons (s3_set 5 sc_reached_within.nd (p3_bm0 PySem.F.slot_list_pop PySem.F.type_list_pop mt3_pop (p3_var 4)))
      (s3_one (s3_for PassesOwn.never rfl (i3_list (p3_call (ok_around T) (hr.mono (by decide)) (a3_cons (p3_var 5) a3_nil))) (g3_name 6 sc_reached_within.nd) (s3_one (s3_if (p3_tw (p3_wand (p3_tcmp (op3_inX hr.units) (p3_var 6) (p3_var 2)) (p3_wand1 (p3_tcmp (op3_notInX hr.units) (p3_var 6) (p3_var 3))))) (s3_cons (s3_dput hr.units (p3_var 3) (p3_var 6) p3_bl)
      (s3_one (s3_expr (p3_bm PySem.F.slot_list_append PySem.F.type_list_append mt3_app (p3_var 4) (a3_cons (p3_var 6) a3_nil))))) s3_nil))))))
      (s3_one (s3_ret (p3_var 3))))))), rd_reached_within⟩

theorem ok_l_mix (T : Tx K mg) : Fn P w K mg base 2 "_law_mix" P_l_mix sp_l_mix := by
  obtain ⟨f, fd, F, hm, hb⟩ := T.f_l_mix
  exact fn3 F sc_l_mix hm hb len_l_mix fun cdv A outer s H E hr => ⟨t_l_mix, (s3_one (s3_ret (p3_op op3_mod (p3_op op3_mul (p3_op op3_mod (p3_op op3_mul (p3_op op3_add (p3_op op3_add (p3_call (ok_l_cell_at T) (hr.mono (by decide)) (a3_cons (p3_var 0) (a3_cons (p3_var 1) a3_nil))) (p3_op op3_mul (p3_op op3_mul p3_int (p3_var 1)) (p3_var 1))) p3_int) p3_int) p3_int) p3_int) p3_int))), rd_l_mix⟩

theorem ok_l_is_pair (T : Tx K mg) : Fn P w K mg base 2 "_law_is_pair" P_l_is_pair sp_l_is_pair := by
  obtain ⟨f, fd, F, hm, hb⟩ := T.f_l_is_pair
  exact fn3 F sc_l_is_pair hm hb len_l_is_pair fun cdv A outer s H E hr => ⟨t_l_is_pair, (s3_one (s3_ret (p3_and (p3_callB cb3_isi rfl T.m_isinstance (by rfl) (a3_cons (p3_var 0) (a3_cons (p3_ty rfl T.m_tuple (by rfl)) a3_nil))) (p3_and (p3_cmp (op3_eq hr.units) (p3_callB cb3_len rfl T.m_len (by rfl) (a3_cons (p3_var 0) a3_nil)) p3_int) (p3_and (p3_call (ok_l_whole T) (hr.mono (by decide)) (a3_cons (p3_ix ix3 (p3_var 0) p3_int) a3_nil)) (p3_one (p3_call (ok_l_whole T) (hr.mono (by decide)) (a3_cons (p3_ix ix3 (p3_var 0) p3_int) a3_nil)))))))), rd_l_is_pair⟩

theorem ok_first_cut_off (T : Tx K mg) : Fn P w K mg base 3 "first_cut_off" P_first_cut_off sp_first_cut_off := by
  obtain ⟨f, fd, F, hm, hb⟩ := T.f_first_cut_off
  exact fn3 F sc_first_cut_off hm hb len_first_cut_off fun cdv A outer s H E hr => ⟨t_first_cut_off, (s3_cons (s3_set 1 sc_first_cut_off.nd (p3_call (ok_reached_within T) (hr.mono (by decide)) (a3_cons (p3_var 0) (a3_cons (p3_ix ix3 (p3_var 0) p3_int) a3_nil))))
      (s3_cons (s3_for PassesOwn.never rfl (i3_list (p3_var 0)) (g3_name 2 sc_first_cut_off.nd) (s3_one (s3_if (p3_tcmp (op3_notInX hr.units) (p3_var 2) (p3_var 1)) (s3_one (s3_ret (p3_var 2))) s3_nil)))
      (s3_one (s3_ret p3_non)))), rd_first_cut_off⟩

theorem ok_l_is_piece (T : Tx K mg) : Fn P w K mg base 3 "_law_is_piece" P_l_is_piece sp_l_is_piece := by
  obtain ⟨f, fd, F, hm, hb⟩ := T.f_l_is_piece
  exact fn3 F sc_l_is_piece hm hb len_l_is_piece fun cdv A outer s H E hr => ⟨t_l_is_piece, (s3_cons (s3_if (p3_tw (p3_wor (p3_tnot (p3_tval (p3_callB cb3_isi rfl T.m_isinstance (by rfl) (a3_cons (p3_var 0) (a3_cons (p3_ty rfl T.m_tuple (by rfl)) a3_nil))))) (p3_wor1 (p3_tcmp (op3_ne hr.units) (p3_callB cb3_len rfl T.m_len (by rfl) (a3_cons (p3_var 0) a3_nil)) (p3_callB cb3_len rfl T.m_len (by rfl) (a3_cons (p3_var 1) a3_nil)))))) (s3_one (s3_ret p3_bl)) s3_nil)
      (s3_cons (s3_for PassesOwn.never rfl (i3_rng1 T.m_range (p3_callB cb3_len rfl T.m_len (by rfl) (a3_cons (p3_var 1) a3_nil))) (g3_name 2 sc_l_is_piece.nd) (s3_one (s3_if (p3_tw (p3_wor (p3_tnot (p3_tval (p3_call (ok_l_is_pair T) (hr.mono (by decide)) (a3_cons (p3_ix ix3 (p3_var 0) (p3_var 2)) a3_nil)))) (p3_wor1 (p3_tcmp (op3_ne hr.units) (p3_ix ix3 (p3_var 0) (p3_var 2)) (p3_ix ix3 (p3_var 1) (p3_var 2)))))) (s3_one (s3_ret p3_bl)) s3_nil)))
      (s3_one (s3_ret p3_bl)))), rd_l_is_piece⟩

theorem ok_l_grown (T : Tx K mg) : Fn P w K mg base 3 "_law_grown" P_l_grown sp_l_grown := by
  obtain ⟨f, fd, F, hm, hb⟩ := T.f_l_grown
  exact fn3 F sc_l_grown hm hb len_l_grown fun cdv A outer s H E hr => ⟨t_l_grown, (s3_cons (s3_set 3 sc_l_grown.nd (p3_lst (a3_cons (p3_tup (a3_cons p3_int (a3_cons p3_int a3_nil))) a3_nil)))
      (s3_cons (s3_for PassesOwn.never rfl (i3_rng1 T.m_range (p3_op op3_mul p3_int (p3_var 2))) (g3_name 4 sc_l_grown.nd) (s3_cons (s3_set 5 sc_l_grown.nd (p3_call (ok_l_mix T) (hr.mono (by decide)) (a3_cons (p3_var 0) (a3_cons (p3_op op3_add (p3_var 1) (p3_var 4)) a3_nil))))
      (s3_cons (s3_set 6 sc_l_grown.nd (p3_ix ix3 (p3_call (ok_l_beside T) (hr.mono (by decide)) (a3_cons (p3_ix ix3 (p3_var 3) (p3_op op3_mod (p3_var 5) (p3_callB cb3_len rfl T.m_len (by rfl) (a3_cons (p3_var 3) a3_nil)))) a3_nil)) (p3_op op3_mod (p3_op op3_fdiv (p3_var 5) p3_int) p3_int)))
      (s3_one (s3_if (p3_tw (p3_wand (p3_tcmp (op3_lt hr.units0) (p3_callB cb3_len rfl T.m_len (by rfl) (a3_cons (p3_var 3) a3_nil)) (p3_var 2)) (p3_wand (p3_tcmp (op3_notInX hr.units) (p3_var 6) (p3_var 3)) (p3_wand1 (p3_tnot (p3_tval (p3_call (ok_l_shuts_in T) (hr.mono (by decide)) (a3_cons (p3_var 3) (a3_cons (p3_var 6) a3_nil))))))))) (s3_one (s3_expr (p3_bm PySem.F.slot_list_append PySem.F.type_list_append mt3_app (p3_var 3) (a3_cons (p3_var 6) a3_nil)))) s3_nil)))))
      (s3_one (s3_ret (p3_var 3))))), rd_l_grown⟩

theorem ok_in_order (T : Tx K mg) : Fn P w K mg base 4 "in_order" P_in_order sp_in_order := by
  obtain ⟨f, fd, F, hm, hb⟩ := T.f_in_order
  exact fn3 F sc_in_order hm hb len_in_order fun cdv A outer s H E hr => ⟨t_in_order, (s3_one (s3_ret (p3_sortedK (ok_rank_of T) (hr.mono (by decide)) T.m_sorted (p3_var 0)))), rd_in_order⟩

theorem ok_unlike_in_order (T : Tx K mg) : Fn P w K mg base 5 "unlike_in_order" P_unlike_in_order sp_unlike_in_order := by
  obtain ⟨f, fd, F, hm, hb⟩ := T.f_unlike_in_order
  exact fn3 F sc_unlike_in_order hm hb len_unlike_in_order fun cdv A outer s H E hr => ⟨t_unlike_in_order, (s3_cons (s3_set 1 sc_unlike_in_order.nd (p3_lst a3_nil))
      (s3_cons (s3_for PassesOwn.never rfl (i3_list (p3_call (ok_in_order T) (hr.mono (by decide)) (a3_cons (p3_var 0) a3_nil))) (g3_name 2 sc_unlike_in_order.nd) (s3_one (s3_if (p3_tw (p3_wor (p3_tcmp (op3_eq hr.units) (p3_callB cb3_len rfl T.m_len (by rfl) (a3_cons (p3_var 1) a3_nil)) p3_int) (p3_wor1 (p3_tcmp (op3_ne hr.units) (p3_ix ix3 (p3_var 1) (p3_un un3_neg p3_int)) (p3_var 2))))) (s3_one (s3_expr (p3_bm PySem.F.slot_list_append PySem.F.type_list_append mt3_app (p3_var 1) (a3_cons (p3_var 2) a3_nil)))) s3_nil)))
      (s3_one (s3_ret (p3_var 1))))), rd_unlike_in_order⟩

theorem ok_piece_of (T : Tx K mg) : Fn P w K mg base 6 "piece_of" P_piece_of sp_piece_of := by
  obtain ⟨f, fd, F, hm, hb⟩ := T.f_piece_of
  exact fn3 F sc_piece_of hm hb len_piece_of fun cdv A outer s H E hr => ⟨t_piece_of, (s3_cons (s3_set 1 sc_piece_of.nd (p3_call (ok_unlike_in_order T) (hr.mono (by decide)) (a3_cons (p3_var 0) a3_nil)))
      (s3_cons (s3_if (p3_tcmp (op3_eq hr.units) (p3_callB cb3_len rfl T.m_len (by rfl) (a3_cons (p3_var 1) a3_nil)) p3_int) (s3_one s3_never) s3_nil)
      (s3_cons (s3_if (p3_tcmp op3_gt (p3_callB cb3_len rfl T.m_len (by rfl) (a3_cons (p3_var 1) a3_nil)) (p3_globE rfl T.c_MOST_CELLS)) (s3_one s3_never) s3_nil)
      (s3_cons (s3_set 2 sc_piece_of.nd (p3_call (ok_first_cut_off T) (hr.mono (by decide)) (a3_cons (p3_var 1) a3_nil)))
      (s3_cons (s3_if (p3_tcmp op3_notN (p3_var 2) p3_non) (s3_one s3_never) s3_nil)
      (s3_cons (s3_set 3 sc_piece_of.nd (p3_call (ok_first_cut_off T) (hr.mono (by decide)) (a3_cons (p3_call (ok_empty_in_box T) (hr.mono (by decide)) (a3_cons (p3_var 1) a3_nil)) a3_nil)))
      (s3_cons (s3_if (p3_tcmp op3_notN (p3_var 3) p3_non) (s3_one s3_never) s3_nil)
      (s3_one (s3_ret (p3_callTy cb3_tuple rfl T.m_tuple (by rfl) (a3_cons (p3_var 1) a3_nil))))))))))), rd_piece_of⟩

theorem law_ok (T : Tx K mg) {f : Addr} {fd : FuncData} (F : Fun K "law" "law" s_law f fd) : FnOk P w K mg base CX0 7 f fd P_law (liftF K sp_law) :=
  fnok3 F sc_law len_law fun cdv A outer s H E hr => ⟨t_law, (s3_cons (s3_set 1 sc_law.nd (p3_call (ok_l_grown T) (hr.mono (by decide)) (a3_cons (p3_var 0) (a3_cons p3_int (a3_cons (p3_op op3_add p3_int (p3_op op3_mod (p3_call (ok_l_cell_at T) (hr.mono (by decide)) (a3_cons (p3_var 0) (a3_cons p3_int a3_nil))) p3_int)) a3_nil)))))
      (s3_cons (s3_set 2 sc_law.nd (p3_call (ok_l_far T) (hr.mono (by decide)) (a3_cons (p3_call (ok_l_cell_at T) (hr.mono (by decide)) (a3_cons (p3_var 0) (a3_cons p3_int a3_nil))) a3_nil)))
      (s3_cons (s3_set 3 sc_law.nd (p3_call (ok_l_far T) (hr.mono (by decide)) (a3_cons (p3_call (ok_l_cell_at T) (hr.mono (by decide)) (a3_cons (p3_var 0) (a3_cons p3_int a3_nil))) a3_nil)))
      (s3_cons (s3_setcomp (fv := [(2, "_law_x"), (3, "_law_y")]) 4 sc_law.nd (by show CompOk (defScope s_law) N_law _ _ _ _; exact ⟨rfl, by decide +kernel, by decide +kernel, by decide +kernel, rfl, by decide +kernel, by decide +kernel⟩) rfl (i3_list (p3_var 1)) (fun pins cl s1 H1 fp => ifs3_nil) (fun pins cl s1 H1 fp => (p3_tup (a3_cons (p3_op op3_add (p3_ix ix3 (p3_var 0) p3_int) (p3_var 1)) (a3_cons (p3_op op3_add (p3_ix ix3 (p3_var 0) p3_int) (p3_var 2)) a3_nil)))))
      (s3_cons (s3_set 5 sc_law.nd (p3_op op3_mod (p3_call (ok_l_cell_at T) (hr.mono (by decide)) (a3_cons (p3_var 0) (a3_cons p3_int a3_nil))) (p3_callB cb3_len rfl T.m_len (by rfl) (a3_cons (p3_var 4) a3_nil))))
      (s3_cons (s3_set 6 sc_law.nd (p3_op op3_add (p3_slice sl3_ok (p3_var 4) (po3_some (p3_var 5)) po3_none) (p3_slice sl3_ok (p3_var 4) po3_none (po3_some (p3_var 5)))))
      (s3_cons (s3_for PassesOwn.never rfl (i3_list (p3_slice sl3_ok (p3_var 0) (po3_some p3_int) (po3_some p3_int))) (g3_name 7 sc_law.nd) (s3_one (s3_if (p3_tcmp (op3_eq hr.units) (p3_op op3_mod (p3_var 7) p3_int) p3_int) (s3_one (s3_expr (p3_bm PySem.F.slot_list_insert PySem.F.type_list_insert mt3_ins (p3_var 6) (a3_cons (p3_op op3_mod (p3_op op3_fdiv (p3_var 7) p3_int) (p3_callB cb3_len rfl T.m_len (by rfl) (a3_cons (p3_var 6) a3_nil))) (a3_cons (p3_ix ix3 (p3_var 4) (p3_op op3_mod (p3_op op3_fdiv (p3_var 7) p3_int) (p3_callB cb3_len rfl T.m_len (by rfl) (a3_cons (p3_var 4) a3_nil)))) a3_nil))))) s3_nil)))
      (s3_cons (s3_set 8 sc_law.nd (p3_callTy cb3_list rfl T.m_list (by rfl) (a3_cons (p3_var 6) a3_nil)))
      (s3_cons (s3_set 9 sc_law.nd (p3_call (ok_piece_of T) (hr.mono (by decide)) (a3_cons (p3_var 8) a3_nil)))
      (s3_cons (s3_if (p3_tw (p3_wor (p3_tnot (p3_tval (p3_call (ok_l_is_piece T) (hr.mono (by decide)) (a3_cons (p3_var 9) (a3_cons (p3_call (ok_l_sorted T) (hr.mono (by decide)) (a3_cons (p3_var 4) a3_nil)) a3_nil))))) (p3_wor1 (p3_tcmp (op3_ne hr.units) (p3_var 8) (p3_var 6))))) (s3_one (s3_ret p3_bl)) s3_nil)
      (s3_one (s3_ret (p3_call (ok_l_is_piece T) (hr.mono (by decide)) (a3_cons (p3_call (ok_piece_of T) (hr.mono (by decide)) (a3_cons (p3_callTy cb3_list rfl T.m_list (by rfl) (a3_cons (p3_var 9) a3_nil)) a3_nil)) (a3_cons (p3_call (ok_l_sorted T) (hr.mono (by decide)) (a3_cons (p3_var 4) a3_nil)) a3_nil))))))))))))))), rd_law⟩

end
theorem all_mk {l : PySem.W.OpenLaw} {w : World} {K : PySem.W.Frag} {h : Heap} {mg : Str → Option Value} {fa f0 f1 f2 f3 f4 f5 f6 f7 f8 f9 f10 f11 f12 f13 f14 f15 f16 f17 f18 : Addr} (X : K.In h) (G : h.Ns mainGlobals mg) (hfa : mg "law" = some (.ref fa))
    {od0 an0 od1 an1 od2 an2 od3 an3 od4 an4 od5 an5 od6 an6 od7 an7 od8 an8 od9 an9 od10 an10 od11 an11 od12 an12 od13 an13 od14 an14 od15 an15 od16 an16 od17 an17 od18 an18 : Option Addr} {sl0 sl1 sl2 sl3 sl4 sl5 sl6 sl7 sl8 sl9 sl10 sl11 sl12 sl13 sl14 sl15 sl16 sl17 sl18 : Array (Option Value)} {oc0 kV0 dc0 pm0 cd0 ct0 oc1 kV1 dc1 pm1 cd1 ct1 oc2 kV2 dc2 pm2 cd2 ct2 oc3 kV3 dc3 pm3 cd3 ct3 oc4 kV4 dc4 pm4 cd4 ct4 oc5 kV5 dc5 pm5 cd5 ct5 oc6 kV6 dc6 pm6 cd6 ct6 oc7 kV7 dc7 pm7 cd7 ct7 oc8 kV8 dc8 pm8 cd8 ct8 oc9 kV9 dc9 pm9 cd9 ct9 oc10 kV10 dc10 pm10 cd10 ct10 oc11 kV11 dc11 pm11 cd11 ct11 oc12 kV12 dc12 pm12 cd12 ct12 oc13 kV13 dc13 pm13 cd13 ct13 oc14 kV14 dc14 pm14 cd14 ct14 oc15 kV15 dc15 pm15 cd15 ct15 oc16 kV16 dc16 pm16 cd16 ct16 oc17 kV17 dc17 pm17 cd17 ct17 oc18 kV18 dc18 pm18 cd18 ct18 : Value}
    {tk0 : Tok}
    (a0 : PySem.W.nsIn K mainGlobals "rank_of" = some (some (.ref f0))) (l0 : K.lookup f0 = some ⟨oc0, od0, .func (PySem.W.fnOf "rank_of" "rank_of" (defArgs s_rank_of) (defBody s_rank_of) (defScope s_rank_of) .none kV0 dc0 pm0 an0 cd0 ct0), sl0⟩) (c0 : PySem.W.codeIn K cd0 "rank_of" = true) (k0 : PySem.W.keepIn K (.ref f0) = true)
    (a1 : PySem.W.nsIn K mainGlobals "in_order" = some (some (.ref f1))) (l1 : K.lookup f1 = some ⟨oc1, od1, .func (PySem.W.fnOf "in_order" "in_order" (defArgs s_in_order) (defBody s_in_order) (defScope s_in_order) .none kV1 dc1 pm1 an1 cd1 ct1), sl1⟩) (c1 : PySem.W.codeIn K cd1 "in_order" = true) (k1 : PySem.W.keepIn K (.ref f1) = true)
    (a2 : PySem.W.nsIn K mainGlobals "around" = some (some (.ref f2))) (l2 : K.lookup f2 = some ⟨oc2, od2, .func (PySem.W.fnOf "around" "around" (defArgs s_around) (defBody s_around) (defScope s_around) .none kV2 dc2 pm2 an2 cd2 ct2), sl2⟩) (c2 : PySem.W.codeIn K cd2 "around" = true) (k2 : PySem.W.keepIn K (.ref f2) = true)
    (a3 : PySem.W.nsIn K mainGlobals "unlike_in_order" = some (some (.ref f3))) (l3 : K.lookup f3 = some ⟨oc3, od3, .func (PySem.W.fnOf "unlike_in_order" "unlike_in_order" (defArgs s_unlike_in_order) (defBody s_unlike_in_order) (defScope s_unlike_in_order) .none kV3 dc3 pm3 an3 cd3 ct3), sl3⟩) (c3 : PySem.W.codeIn K cd3 "unlike_in_order" = true) (k3 : PySem.W.keepIn K (.ref f3) = true)
    (a4 : PySem.W.nsIn K mainGlobals "reached_within" = some (some (.ref f4))) (l4 : K.lookup f4 = some ⟨oc4, od4, .func (PySem.W.fnOf "reached_within" "reached_within" (defArgs s_reached_within) (defBody s_reached_within) (defScope s_reached_within) .none kV4 dc4 pm4 an4 cd4 ct4), sl4⟩) (c4 : PySem.W.codeIn K cd4 "reached_within" = true) (k4 : PySem.W.keepIn K (.ref f4) = true)
    (a5 : PySem.W.nsIn K mainGlobals "first_cut_off" = some (some (.ref f5))) (l5 : K.lookup f5 = some ⟨oc5, od5, .func (PySem.W.fnOf "first_cut_off" "first_cut_off" (defArgs s_first_cut_off) (defBody s_first_cut_off) (defScope s_first_cut_off) .none kV5 dc5 pm5 an5 cd5 ct5), sl5⟩) (c5 : PySem.W.codeIn K cd5 "first_cut_off" = true) (k5 : PySem.W.keepIn K (.ref f5) = true)
    (a6 : PySem.W.nsIn K mainGlobals "empty_in_box" = some (some (.ref f6))) (l6 : K.lookup f6 = some ⟨oc6, od6, .func (PySem.W.fnOf "empty_in_box" "empty_in_box" (defArgs s_empty_in_box) (defBody s_empty_in_box) (defScope s_empty_in_box) .none kV6 dc6 pm6 an6 cd6 ct6), sl6⟩) (c6 : PySem.W.codeIn K cd6 "empty_in_box" = true) (k6 : PySem.W.keepIn K (.ref f6) = true)
    (a7 : PySem.W.nsIn K mainGlobals "piece_of" = some (some (.ref f7))) (l7 : K.lookup f7 = some ⟨oc7, od7, .func (PySem.W.fnOf "piece_of" "piece_of" (defArgs s_piece_of) (defBody s_piece_of) (defScope s_piece_of) .none kV7 dc7 pm7 an7 cd7 ct7), sl7⟩) (c7 : PySem.W.codeIn K cd7 "piece_of" = true) (k7 : PySem.W.keepIn K (.ref f7) = true)
    (a8 : PySem.W.nsIn K mainGlobals "_law_cell_at" = some (some (.ref f8))) (l8 : K.lookup f8 = some ⟨oc8, od8, .func (PySem.W.fnOf "_law_cell_at" "_law_cell_at" (defArgs s_l_cell_at) (defBody s_l_cell_at) (defScope s_l_cell_at) .none kV8 dc8 pm8 an8 cd8 ct8), sl8⟩) (c8 : PySem.W.codeIn K cd8 "_law_cell_at" = true) (k8 : PySem.W.keepIn K (.ref f8) = true)
    (a9 : PySem.W.nsIn K mainGlobals "_law_mix" = some (some (.ref f9))) (l9 : K.lookup f9 = some ⟨oc9, od9, .func (PySem.W.fnOf "_law_mix" "_law_mix" (defArgs s_l_mix) (defBody s_l_mix) (defScope s_l_mix) .none kV9 dc9 pm9 an9 cd9 ct9), sl9⟩) (c9 : PySem.W.codeIn K cd9 "_law_mix" = true) (k9 : PySem.W.keepIn K (.ref f9) = true)
    (a10 : PySem.W.nsIn K mainGlobals "_law_whole" = some (some (.ref f10))) (l10 : K.lookup f10 = some ⟨oc10, od10, .func (PySem.W.fnOf "_law_whole" "_law_whole" (defArgs s_l_whole) (defBody s_l_whole) (defScope s_l_whole) .none kV10 dc10 pm10 an10 cd10 ct10), sl10⟩) (c10 : PySem.W.codeIn K cd10 "_law_whole" = true) (k10 : PySem.W.keepIn K (.ref f10) = true)
    (a11 : PySem.W.nsIn K mainGlobals "_law_is_pair" = some (some (.ref f11))) (l11 : K.lookup f11 = some ⟨oc11, od11, .func (PySem.W.fnOf "_law_is_pair" "_law_is_pair" (defArgs s_l_is_pair) (defBody s_l_is_pair) (defScope s_l_is_pair) .none kV11 dc11 pm11 an11 cd11 ct11), sl11⟩) (c11 : PySem.W.codeIn K cd11 "_law_is_pair" = true) (k11 : PySem.W.keepIn K (.ref f11) = true)
    (a12 : PySem.W.nsIn K mainGlobals "_law_is_piece" = some (some (.ref f12))) (l12 : K.lookup f12 = some ⟨oc12, od12, .func (PySem.W.fnOf "_law_is_piece" "_law_is_piece" (defArgs s_l_is_piece) (defBody s_l_is_piece) (defScope s_l_is_piece) .none kV12 dc12 pm12 an12 cd12 ct12), sl12⟩) (c12 : PySem.W.codeIn K cd12 "_law_is_piece" = true) (k12 : PySem.W.keepIn K (.ref f12) = true)
    (a13 : PySem.W.nsIn K mainGlobals "_law_sorted" = some (some (.ref f13))) (l13 : K.lookup f13 = some ⟨oc13, od13, .func (PySem.W.fnOf "_law_sorted" "_law_sorted" (defArgs s_l_sorted) (defBody s_l_sorted) (defScope s_l_sorted) .none kV13 dc13 pm13 an13 cd13 ct13), sl13⟩) (c13 : PySem.W.codeIn K cd13 "_law_sorted" = true) (k13 : PySem.W.keepIn K (.ref f13) = true)
    (a14 : PySem.W.nsIn K mainGlobals "_law_beside" = some (some (.ref f14))) (l14 : K.lookup f14 = some ⟨oc14, od14, .func (PySem.W.fnOf "_law_beside" "_law_beside" (defArgs s_l_beside) (defBody s_l_beside) (defScope s_l_beside) .none kV14 dc14 pm14 an14 cd14 ct14), sl14⟩) (c14 : PySem.W.codeIn K cd14 "_law_beside" = true) (k14 : PySem.W.keepIn K (.ref f14) = true)
    (a15 : PySem.W.nsIn K mainGlobals "_law_shuts_in" = some (some (.ref f15))) (l15 : K.lookup f15 = some ⟨oc15, od15, .func (PySem.W.fnOf "_law_shuts_in" "_law_shuts_in" (defArgs s_l_shuts_in) (defBody s_l_shuts_in) (defScope s_l_shuts_in) .none kV15 dc15 pm15 an15 cd15 ct15), sl15⟩) (c15 : PySem.W.codeIn K cd15 "_law_shuts_in" = true) (k15 : PySem.W.keepIn K (.ref f15) = true)
    (a16 : PySem.W.nsIn K mainGlobals "_law_grown" = some (some (.ref f16))) (l16 : K.lookup f16 = some ⟨oc16, od16, .func (PySem.W.fnOf "_law_grown" "_law_grown" (defArgs s_l_grown) (defBody s_l_grown) (defScope s_l_grown) .none kV16 dc16 pm16 an16 cd16 ct16), sl16⟩) (c16 : PySem.W.codeIn K cd16 "_law_grown" = true) (k16 : PySem.W.keepIn K (.ref f16) = true)
    (a17 : PySem.W.nsIn K mainGlobals "_law_far" = some (some (.ref f17))) (l17 : K.lookup f17 = some ⟨oc17, od17, .func (PySem.W.fnOf "_law_far" "_law_far" (defArgs s_l_far) (defBody s_l_far) (defScope s_l_far) .none kV17 dc17 pm17 an17 cd17 ct17), sl17⟩) (c17 : PySem.W.codeIn K cd17 "_law_far" = true) (k17 : PySem.W.keepIn K (.ref f17) = true)
    (a18 : PySem.W.nsIn K mainGlobals "law" = some (some (.ref f18))) (l18 : K.lookup f18 = some ⟨oc18, od18, .func (PySem.W.fnOf "law" "law" (defArgs s_law) (defBody s_law) (defScope s_law) .none kV18 dc18 pm18 an18 cd18 ct18), sl18⟩) (c18 : PySem.W.codeIn K cd18 "law" = true) (k18 : PySem.W.keepIn K (.ref f18) = true)
    (z0 : PySem.W.nsIn K mainGlobals "bool" = some none)
    (z1 : PySem.W.nsIn K mainGlobals "dict" = some none)
    (z2 : PySem.W.nsIn K mainGlobals "int" = some none)
    (z3 : PySem.W.nsIn K mainGlobals "isinstance" = some none)
    (z4 : PySem.W.nsIn K mainGlobals "len" = some none)
    (z5 : PySem.W.nsIn K mainGlobals "list" = some none)
    (z6 : PySem.W.nsIn K mainGlobals "max" = some none)
    (z7 : PySem.W.nsIn K mainGlobals "min" = some none)
    (z8 : PySem.W.nsIn K mainGlobals "range" = some none)
    (z9 : PySem.W.nsIn K mainGlobals "sorted" = some none)
    (z10 : PySem.W.nsIn K mainGlobals "tuple" = some none)
    (y0 : PySem.W.nsIn K mainGlobals "MOST_CELLS" = some (some (.int 10 tk0)))
    : ∃ fd : FuncData, (∀ (s : Shared) (v : Value), BindsTo s fd ⟨[v], []⟩ [("_law_script", v)]) ∧ ∀ base : Heap, K.In base → base.Ns mainGlobals mg → FnOk l.prog w K mg base CX0 7 fa fd ["_law_script"] (liftF K sp_law) := by
  have F0 := fun_mk (st := s_rank_of) l0 c0 k0
  have b0 := F0.binds (ps := P_rank_of) fun _ _ _ _ _ _ us hl => match us, hl with | [_], _ => rfl
  have F1 := fun_mk (st := s_in_order) l1 c1 k1
  have b1 := F1.binds (ps := P_in_order) fun _ _ _ _ _ _ us hl => match us, hl with | [_], _ => rfl
  have F2 := fun_mk (st := s_around) l2 c2 k2
  have b2 := F2.binds (ps := P_around) fun _ _ _ _ _ _ us hl => match us, hl with | [_], _ => rfl
  have F3 := fun_mk (st := s_unlike_in_order) l3 c3 k3
  have b3 := F3.binds (ps := P_unlike_in_order) fun _ _ _ _ _ _ us hl => match us, hl with | [_], _ => rfl
  have F4 := fun_mk (st := s_reached_within) l4 c4 k4
  have b4 := F4.binds (ps := P_reached_within) fun _ _ _ _ _ _ us hl => match us, hl with | [_, _], _ => rfl
  have F5 := fun_mk (st := s_first_cut_off) l5 c5 k5
  have b5 := F5.binds (ps := P_first_cut_off) fun _ _ _ _ _ _ us hl => match us, hl with | [_], _ => rfl
  have F6 := fun_mk (st := s_empty_in_box) l6 c6 k6
  have b6 := F6.binds (ps := P_empty_in_box) fun _ _ _ _ _ _ us hl => match us, hl with | [_], _ => rfl
  have F7 := fun_mk (st := s_piece_of) l7 c7 k7
  have b7 := F7.binds (ps := P_piece_of) fun _ _ _ _ _ _ us hl => match us, hl with | [_], _ => rfl
  have F8 := fun_mk (st := s_l_cell_at) l8 c8 k8
  have b8 := F8.binds (ps := P_l_cell_at) fun _ _ _ _ _ _ us hl => match us, hl with | [_, _], _ => rfl
  have F9 := fun_mk (st := s_l_mix) l9 c9 k9
  have b9 := F9.binds (ps := P_l_mix) fun _ _ _ _ _ _ us hl => match us, hl with | [_, _], _ => rfl
  have F10 := fun_mk (st := s_l_whole) l10 c10 k10
  have b10 := F10.binds (ps := P_l_whole) fun _ _ _ _ _ _ us hl => match us, hl with | [_], _ => rfl
  have F11 := fun_mk (st := s_l_is_pair) l11 c11 k11
  have b11 := F11.binds (ps := P_l_is_pair) fun _ _ _ _ _ _ us hl => match us, hl with | [_], _ => rfl
  have F12 := fun_mk (st := s_l_is_piece) l12 c12 k12
  have b12 := F12.binds (ps := P_l_is_piece) fun _ _ _ _ _ _ us hl => match us, hl with | [_, _], _ => rfl
  have F13 := fun_mk (st := s_l_sorted) l13 c13 k13
  have b13 := F13.binds (ps := P_l_sorted) fun _ _ _ _ _ _ us hl => match us, hl with | [_], _ => rfl
  have F14 := fun_mk (st := s_l_beside) l14 c14 k14
  have b14 := F14.binds (ps := P_l_beside) fun _ _ _ _ _ _ us hl => match us, hl with | [_], _ => rfl
  have F15 := fun_mk (st := s_l_shuts_in) l15 c15 k15
  have b15 := F15.binds (ps := P_l_shuts_in) fun _ _ _ _ _ _ us hl => match us, hl with | [_, _], _ => rfl
  have F16 := fun_mk (st := s_l_grown) l16 c16 k16
  have b16 := F16.binds (ps := P_l_grown) fun _ _ _ _ _ _ us hl => match us, hl with | [_, _, _], _ => rfl
  have F17 := fun_mk (st := s_l_far) l17 c17 k17
  have b17 := F17.binds (ps := P_l_far) fun _ _ _ _ _ _ us hl => match us, hl with | [_], _ => rfl
  have F18 := fun_mk (st := s_law) l18 c18 k18
  have b18 := F18.binds (ps := P_law) fun _ _ _ _ _ _ us hl => match us, hl with | [_], _ => rfl
  have T : Tx K mg := ⟨⟨_, _, F0, PySem.W.mg_of X G a0, b0⟩, ⟨_, _, F1, PySem.W.mg_of X G a1, b1⟩, ⟨_, _, F2, PySem.W.mg_of X G a2, b2⟩, ⟨_, _, F3, PySem.W.mg_of X G a3, b3⟩, ⟨_, _, F4, PySem.W.mg_of X G a4, b4⟩, ⟨_, _, F5, PySem.W.mg_of X G a5, b5⟩, ⟨_, _, F6, PySem.W.mg_of X G a6, b6⟩, ⟨_, _, F7, PySem.W.mg_of X G a7, b7⟩, ⟨_, _, F8, PySem.W.mg_of X G a8, b8⟩, ⟨_, _, F9, PySem.W.mg_of X G a9, b9⟩, ⟨_, _, F10, PySem.W.mg_of X G a10, b10⟩, ⟨_, _, F11, PySem.W.mg_of X G a11, b11⟩, ⟨_, _, F12, PySem.W.mg_of X G a12, b12⟩, ⟨_, _, F13, PySem.W.mg_of X G a13, b13⟩, ⟨_, _, F14, PySem.W.mg_of X G a14, b14⟩, ⟨_, _, F15, PySem.W.mg_of X G a15, b15⟩, ⟨_, _, F16, PySem.W.mg_of X G a16, b16⟩, ⟨_, _, F17, PySem.W.mg_of X G a17, b17⟩, PySem.W.mg_none_of X G z0, PySem.W.mg_none_of X G z1, PySem.W.mg_none_of X G z2, PySem.W.mg_none_of X G z3, PySem.W.mg_none_of X G z4, PySem.W.mg_none_of X G z5, PySem.W.mg_none_of X G z6, PySem.W.mg_none_of X G z7, PySem.W.mg_none_of X G z8, PySem.W.mg_none_of X G z9, PySem.W.mg_none_of X G z10, ⟨_, PySem.W.mg_of X G y0⟩⟩
  have e := hfa.symm.trans (PySem.W.mg_of X G a18)
  cases e
  refine ⟨PySem.W.fnOf "law" "law" (defArgs s_law) (defBody s_law) (defScope s_law) .none kV18 dc18 pm18 an18 cd18 ct18, fun s v => .of_eq rfl, fun base _ _ => ?_⟩
  exact law_ok T F18
end Law
open PySem PySem.W PyProof.Rows
set_option maxRecDepth 100000 in
set_option maxHeartbeats 0 in
theorem PySem.Challenge.cw_borderfloor_k03_pieces_made_holds : PySem.Challenge.rw_borderfloor_k03_pieces_made.Holds := by
  w_on; o_law; k_head; (case hw => w_witness2)
  k_fill
  refine L2.walk_ofK (l := PySem.Challenge.rw_borderfloor_k03_pieces_made) (n := 63) (k := 7) (x := "_law_script") (CX := L2.CX0) (sp := fun K => L3.liftF K Law.sp_law) rfl (by decide) rfl ⟨rfl, by decide, by decide⟩ (fun w h Y => PySem.W.kIn_of Y) ?F ?S (fun _ _ _ _ z => z)
  case F =>
    intro w mg fa h KX G hmg
    refine' Law.all_mk KX G hmg ?a0 ?l0 ?c0 ?k0 ?a1 ?l1 ?c1 ?k1 ?a2 ?l2 ?c2 ?k2 ?a3 ?l3 ?c3 ?k3 ?a4 ?l4 ?c4 ?k4 ?a5 ?l5 ?c5 ?k5 ?a6 ?l6 ?c6 ?k6 ?a7 ?l7 ?c7 ?k7 ?a8 ?l8 ?c8 ?k8 ?a9 ?l9 ?c9 ?k9 ?a10 ?l10 ?c10 ?k10 ?a11 ?l11 ?c11 ?k11 ?a12 ?l12 ?c12 ?k12 ?a13 ?l13 ?c13 ?k13 ?a14 ?l14 ?c14 ?k14 ?a15 ?l15 ?c15 ?k15 ?a16 ?l16 ?c16 ?k16 ?a17 ?l17 ?c17 ?k17 ?a18 ?l18 ?c18 ?k18 ?z0 ?z1 ?z2 ?z3 ?z4 ?z5 ?z6 ?z7 ?z8 ?z9 ?z10 ?y0
    (case a0 => k_is)
    (case l0 => k_is)
    (case c0 => k_is)
    (case k0 => k_is)
    (case a1 => k_is)
    (case l1 => k_is)
    (case c1 => k_is)
    (case k1 => k_is)
    (case a2 => k_is)
    (case l2 => k_is)
    (case c2 => k_is)
    (case k2 => k_is)
    (case a3 => k_is)
    (case l3 => k_is)
    (case c3 => k_is)
    (case k3 => k_is)
    (case a4 => k_is)
    (case l4 => k_is)
    (case c4 => k_is)
    (case k4 => k_is)
    (case a5 => k_is)
    (case l5 => k_is)
    (case c5 => k_is)
    (case k5 => k_is)
    (case a6 => k_is)
    (case l6 => k_is)
    (case c6 => k_is)
    (case k6 => k_is)
    (case a7 => k_is)
    (case l7 => k_is)
    (case c7 => k_is)
    (case k7 => k_is)
    (case a8 => k_is)
    (case l8 => k_is)
    (case c8 => k_is)
    (case k8 => k_is)
    (case a9 => k_is)
    (case l9 => k_is)
    (case c9 => k_is)
    (case k9 => k_is)
    (case a10 => k_is)
    (case l10 => k_is)
    (case c10 => k_is)
    (case k10 => k_is)
    (case a11 => k_is)
    (case l11 => k_is)
    (case c11 => k_is)
    (case k11 => k_is)
    (case a12 => k_is)
    (case l12 => k_is)
    (case c12 => k_is)
    (case k12 => k_is)
    (case a13 => k_is)
    (case l13 => k_is)
    (case c13 => k_is)
    (case k13 => k_is)
    (case a14 => k_is)
    (case l14 => k_is)
    (case c14 => k_is)
    (case k14 => k_is)
    (case a15 => k_is)
    (case l15 => k_is)
    (case c15 => k_is)
    (case k15 => k_is)
    (case a16 => k_is)
    (case l16 => k_is)
    (case c16 => k_is)
    (case k16 => k_is)
    (case a17 => k_is)
    (case l17 => k_is)
    (case c17 => k_is)
    (case k17 => k_is)
    (case a18 => k_is)
    (case l18 => k_is)
    (case c18 => k_is)
    (case k18 => k_is)
    (case z0 => k_is)
    (case z1 => k_is)
    (case z2 => k_is)
    (case z3 => k_is)
    (case z4 => k_is)
    (case z5 => k_is)
    (case z6 => k_is)
    (case z7 => k_is)
    (case z8 => k_is)
    (case z9 => k_is)
    (case z10 => k_is)
    (case y0 => k_is)
  case S => exact fun K H a ns hl hO hS => L3.start_law hO hS (Law.begin_law hl)
